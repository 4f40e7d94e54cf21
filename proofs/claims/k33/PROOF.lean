import PyProof.Rows.All
import Wide.All
import OpenK.AllK
import Wide.FinOn
import HandS.ForMost
import HandS.Conv
import HandS.Zip
import HandS.Walk
import HandS.IsInst
import HandS.Wide
import HandS.EndBits
import HandS.TupAny
import HandS.TupMul
import HandS.Style
import HandS.Deep
import HandS.NoneIn
import HandS.TupLe
import HandS.Dict
import KE.GoesMore
import KE.GoesZip
import HandS.Codes
import HandS.Exc
import HandS.ExcOwn
import HandS.WordsExc
import HandS.ExcField
import HandS.ExcInit
import KE.KExcIs
import PyProof.ExcBaseAll.LookupError
import PyProof.InstStoreFacts
import KE.KExcLine
import HandS.Star
import PyProof.EnumIter
import PyProof.ListNew
import HandS.SetFor
import HandS.Strs
import HandS.Defaults
import HandS.OwnEq
import HandS.More
import HandS.SlotsOwn
import HandS.TryOnly
import OpenK.KOps
import KE.KCallOwn
import KE.KTryMore
import HandS.ExcInitHot
import HandS.SuiteRaise
import HandS.Finally
import HandS.HotCalls
import HandS.Set
import PySem.Challenge.RW_postvote_k33_ranges_of_small_instances
set_option Elab.async false
set_option linter.all false
set_option maxRecDepth 100000
namespace Pv
open PySem PySem.Spec PyProof.Rows L2
/-! heaps -/
theorem upNew {H : Hp} {p b : Addr} {o z : HO} (np : H p = none) (h : H b = some z) : upd H p o b = some z := by
  rw [upd_ne (ne_of_none h np)]; exact h
theorem sameNew {H : Hp} {p : Addr} {o : HO} (np : H p = none) : Same H (upd H p o) := fun _ _ e => upNew np e
/-! a def that is called where no repr is under way -/
structure FnG (P : Program) (w : World) (K : PySem.W.Frag) (mg : Str → Option Value) (base : Heap) (k : Nat) (f : Addr) (fd : FuncData) (ps : List Str) (sp : Sp) : Prop where
  cnt : ∀ vs H Q E, sp vs H Q E → vs.length = ps.length
  go : ∀ (A : Around) (outer : List Env) (s : Shared) (H : Hp) (args : Args) (us : List Value) (vs : List V) (Q : VK) (E : XK),
    A.guards = some [] → Room k A → Env0 P w K mg base A outer s H → BindsTo s fd args (ps.zip us) → Vals vs us →
    sp vs H Q E → codeAny (model P w) A (.call (.ref f) args) (CR CX0 outer P w H s Q E) s
section
variable {P : Program} {w : World} {K : PySem.W.Frag} {mg : Str → Option Value} {base : Heap}
theorem okG {x qual : Str} {st : Stmt} {f : Addr} {fd : FuncData} {N ps : List Str} {k : Nat} {sp : Sp}
    (F : Fun K x qual st f fd) (S : FnScope N ps (defScope st)) (cnt : ∀ vs H Q E, sp vs H Q E → vs.length = ps.length)
    (hbody : ∀ (cdv : Value) (A : Around) (outer : List Env) (s : Shared) (H : Hp) (vs : List V) (Q : VK) (E : XK),
      A.guards = some [] → Room k (A.deeper (envOfC qual (defScope st) s.heap.objs.size f cdv)) → sp vs H Q E →
      ∃ t, PSs (cxOf CX0 P w K mg base N qual (defScope st) f cdv A outer s H E).nox (defBody st) t ∧
        t { nx := fun _ H' => Q .non H', rt := Q } (start N vs) H) : FnG P w K mg base (k + 1) f fd ps sp := by
  obtain ⟨oc, od, kV, doc, pm, an, cdv, ct, osl, rfl, lk, hcd⟩ := F.ex
  refine ⟨cnt, ?_⟩
  intro A outer s H args us vs Q E hgd hr e0 hb r hsp
  have hl := cnt vs H Q E hsp
  have kk : ∀ b o, base.get? b = some o → s.heap.get? b = some o := fun b o e => (e0.bs b o e).1
  have KX : K.In s.heap := e0.mod.kin.keeps kk
  have lim : s.heap.NoLimit := e0.mod.nolimit.keeps kk
  refine codeAny_call_function hr.depth (KX _ _ lk) rfl S.co S.gen rfl (PySem.W.codeRec_of KX hcd)
    (hb _ _ _ _ (wpAny_newFunctionEnv_cells S.kind ?_ ?_))
  · rintro ⟨n, v⟩ hy
    rcases S.par n (List.of_mem_zip hy).1 with q | q
    · left; exact q
    · right; exact ⟨q, PySem.W.cellsFrom_some _ _ _ (Or.inl q)⟩
  · intro env he s1 x
    cases he
    refine ⟨lim.keeps x.toInCall.keep, ?_⟩
    apply codeAny_func
    obtain ⟨t, ht0, hq⟩ := hbody cdv A outer s H vs Q E hgd (hr.deeper _) hsp
    have ht := ht0.nox
    have I := inv_start (CX := CX0) (f := f) (qual := qual) (E := E) S hr.hd e0 hl r x
    refine wpAny_mono (ht.run [] s1 (start N vs) H _ I hq) ?_ (fun _ _ z => z)
    intro fl s' hs
    cases fl with
    | ret u => obtain ⟨v, σ', H', J, rv, q⟩ := hs; exact ⟨v, H', J.os, J.bare, J.base, J.hok, rv, q⟩
    | next => obtain ⟨σ', H', J, q⟩ := hs; exact ⟨V.non, H', J.os, J.bare, J.base, J.hok, rfl, q⟩
    | brk => obtain ⟨_, _, _, q⟩ := hs; exact q.elim
    | cont => obtain ⟨_, _, _, q⟩ := hs; exact q.elim
end
section
variable {X : Cx} {k : Nat} {f : Addr} {fd : FuncData} {ps : List Str} {sp : Sp} {x : Str} {p pos : Pos} {e : Expr} {es : List Expr} {t : TA}
end
theorem lawG {P : Program} {w : World} {K : PySem.W.Frag} {mg mb : Str → Option Value} {k : Nat} {fa a : Addr} {fd : FuncData} {x : Str} {sp : Sp}
    {s₁ : Shared} {vs : List Value} {ns : List Int} (KX : K.In s₁.heap) (hns : s₁.heap.Ns mainGlobals mg) (hb : s₁.heap.Ns builtinsNs mb)
    (hbb : ∀ x : Str, x ≠ "__name__" → mb x = bootBuiltins x) (hlim : s₁.heap.NoLimit) (hg : s₁.gens = #[])
    (ha : s₁.heap.get? a = some { cls := .type "list", data := .seq vs.toArray }) (hi : IntsAre vs ns) (hl : ns.length ≤ sizeLine)
    (hr : Room k callerA) (F : ∀ base : Heap, K.In base → base.Ns mainGlobals mg → FnG P w K mg base k fa fd [x] sp)
    (hbind : ∀ (s : Shared) (u : Value), BindsTo s fd ⟨[u], []⟩ [(x, u)])
    (hsp : ∀ H : Hp, Only H → SqL K H a (ns.map V.int) → sp [.ref a] H (fun v _ => v = .bl true) E0) :
    codeAny (model P w) callerA (.call (.ref fa) ⟨[.ref a], []⟩)
      (fun r s' => r = .ok (.ret (.bool true)) ∧ OldK s₁.heap s'.heap ∧ s'.os = s₁.os ∧ AllBare s'.gens) s₁ := by
  have rv := vals_ints hi
  have lenV := hi.length
  have core : ∀ H : Hp, Only H → SqL K H a (ns.map V.int) → HOk P w H s₁.heap → (∀ b, H b ≠ none → b = a) → (H a ≠ none → K.lookup a = none) →
      codeAny (model P w) callerA (.call (.ref fa) ⟨[.ref a], []⟩)
        (fun r s' => r = .ok (.ret (.bool true)) ∧ OldK s₁.heap s'.heap ∧ s'.os = s₁.os ∧ AllBare s'.gens) s₁ := by
    intro H hO hS hok hA hK
    have noD : ∀ {b : Addr} {o : Obj} {es : Array DictEntry} {ep : Nat}, s₁.heap.get? b = some o → o.data = .dict es ep → H b = none := by
      intro b o es ep e d
      match q : H b with
      | none => rfl
      | some u =>
        obtain rfl : b = a := hA b (by rw [q]; simp)
        rw [ha] at e
        cases e
        exact absurd d (by intro z; cases z)
    have nsK : ∀ {b : Addr} {m : Str → Option Value}, s₁.heap.Ns b m → (hidT s₁.heap H).Ns b m := by
      rintro b m ⟨o, es, ep, e, d, r⟩
      exact ⟨o, es, ep, hidT_get e (noD e d), d, r⟩
    have hKb : K.In (hidT s₁.heap H) := by
      intro b o e
      refine hidT_get (KX b o e) ?_
      match q : H b with
      | none => rfl
      | some u =>
        obtain rfl : b = a := hA b (by rw [q]; simp)
        rw [hK (by rw [q]; simp)] at e
        cases e
    have hM : Mod K mg (hidT s₁.heap H) := by
      obtain ⟨mc, h1, h2⟩ := hlim
      exact ⟨hKb, nsK hns, ⟨mb, nsK hb, hbb⟩, ⟨mc, nsK h1, h2⟩⟩
    have e0 : Env0 P w K mg (hidT s₁.heap H) callerA [] s₁ H :=
      ⟨rfl, hM, fun b o e => of_hidT e, Nat.le_of_eq (hidT_size _ _), trivial, (fun b hb => by cases hb), hok, .of_eq hg⟩
    refine codeAny_mono ((F _ hKb (nsK hns)).go callerA [] s₁ H ⟨[.ref a], []⟩ [.ref a] [.ref a] _ _ rfl hr e0 (hbind s₁ (.ref a)) (.cons rfl .nil) (hsp H hO hS)) ?_
    intro r s' h
    match r, h with
    | .error e, h => exact h.elim
    | .ok .next, h => exact h.elim
    | .ok .brk, h => exact h.elim
    | .ok .cont, h => exact h.elim
    | .ok (.ret u), h =>
      obtain ⟨v, H', os, bare, un, hok', r', q⟩ := h
      cases (show v = V.bl true from q)
      cases (show u = Value.bool true from r')
      refine ⟨rfl, OldK.of_keep ?_, os, bare⟩
      intro b o e
      match q : H b with
      | none => exact un.keep b o e q (by intro z; cases z) (by intro z; cases z)
      | some u =>
        rcases hO b with z | ⟨ob, xs, z⟩
        · rw [q] at z; cases z
        · obtain ⟨e1, _⟩ := hok b _ z
          obtain ⟨e2, _⟩ := hok' b _ (un.frzs b ob _ z)
          rw [e] at e1
          cases e1
          exact e2
  match hk : K.lookup a with
  | some o =>
    have e := KX a o hk
    rw [ha] at e
    cases e
    refine core (fun _ => none) (fun _ => .inl rfl) (.inr ⟨_, vs.toArray, _, hk, rfl, rfl, rfl, ?_, by simpa using rv⟩) (fun b u z => by cases z) (fun b z => absurd rfl z) (fun z => absurd rfl z)
    rw [List.size_toArray, lenV]; exact hl
  | none =>
    let HA : Hp := fun b => if b = a then some (.frz { cls := .type "list", data := .seq vs.toArray } (.lst (ns.map V.int))) else none
    have at_a : HA a = some (.frz { cls := .type "list", data := .seq vs.toArray } (.lst (ns.map V.int))) := if_pos rfl
    have at_ne : ∀ b, b ≠ a → HA b = none := fun b h => if_neg h
    refine core HA ?_ (.inl (.inr ⟨_, at_a⟩)) ?_ ?_ (fun _ => hk)
    · intro b
      by_cases hb : b = a
      · subst hb; exact .inr ⟨_, _, at_a⟩
      · exact .inl (at_ne b hb)
    · intro b u z
      by_cases hb : b = a
      · subst hb
        rw [at_a] at z
        cases z
        exact ⟨ha, by rw [List.length_map]; exact hl, vs, _, rv, ha⟩
      · rw [at_ne b hb] at z; cases z
    · intro b z
      by_cases hb : b = a
      · exact hb
      · exact absurd (at_ne b hb) z
theorem walkG {l : PySem.W.OpenLaw} {n k : Nat} {q : Program} {loose : List Str} {XP : (Str → Option Value) → Heap → Prop} {YP : World → Heap → Prop}
    {d : DefRec} {K : Params → PySem.W.Frag} {sp : World → Sp} {x : Str} (hn : l.most = some n) (hn2 : n ≤ sizeLine) (hdf : d.params.defaults = [])
    (hr : Room k callerA) (hY : ∀ (w : World) (h : Heap), YP w h → (K w.params).In h)
    (F : ∀ (w : World) (mg : Str → Option Value) (fa : Addr) (h : Heap), (K w.params).In h → h.Ns mainGlobals mg → mg d.name = some (.ref fa) →
      ∃ fd : FuncData, (∀ (s : Shared) (u : Value), BindsTo s fd ⟨[u], []⟩ [(x, u)]) ∧
        ∀ base : Heap, (K w.params).In base → base.Ns mainGlobals mg → FnG l.prog w (K w.params) mg base k fa fd [x] (sp w))
    (hsp : ∀ (w : World) (H : Hp) (a : Addr) (ns : List Int), ns.length ≤ n → (∀ z ∈ ns, Builtin.Int.intBits z ≤ 1048576) → Only H →
      SqL (K w.params) H a (ns.map V.int) → sp w [.ref a] H (fun v _ => v = .bl true) E0) :
    PySem.W.WalkO q loose XP YP l.row.toRowW d [] (fun f vs => PySem.call f vs) := by
  refine Att.attach_callB hn hdf ?_
  intro w s₀ s₁ mg mb fa o pm cd doc a vs ns G Y ho hd hcd hmg hobj hints hlen hbits hg
  have KX := hY w _ Y
  obtain ⟨fd, hb, hF⟩ := F w mg fa _ KX G.T.g hmg
  exact lawG KX G.T.g G.T.b G.T.builtins G.T.nolimit hg hobj hints (Nat.le_trans hlen hn2) hr hF hb (fun H hO hS => hsp w H a ns hlen hbits hO hS)
/-! repr of data -/
end Pv
namespace Pv
open PySem PySem.Spec PyProof.Rows L2
def rRepA (K : PySem.W.Frag) : R2 := fun x y H Q => ∃ (l : Addr) (k : Nat) (xs : List V), x = .ref l ∧ y = .int k ∧ SqT K H l xs ∧ xs ≠ [] ∧ k ≤ 1000 ∧ xs.length ≤ 1000 ∧
    (k = 1 → Q (.ref l) H) ∧ (k ≠ 1 → ∀ p, H p = none → Q (.ref p) (upd H p (.tup (List.replicate k xs).flatten)))
abbrev RC := List V → Hp → VK → Prop
def rLenQ (K : PySem.W.Frag) : RC := fun xs H Q => ∃ (p : Addr) (ys : List V), xs = [.ref p] ∧ (SqL K H p ys ∨ SqT K H p ys) ∧ Q (.int ys.length) H
def rTupQ (K : PySem.W.Frag) : RC := fun xs H Q => ∃ (p : Addr) (ys : List V), xs = [.ref p] ∧ ((SqL K H p ys ∧ ∀ l, H l = none → Q (.ref l) (upd H l (.tup ys))) ∨ (SqT K H p ys ∧ Q (.ref p) H))
section
variable {X : Cx}
theorem call_lenQ : CallR X (.builtin "len") (rLenQ X.K) := call_len_seq
theorem call_tupQ : CallR X (.type "tuple") (rTupQ X.K) := call_tuple_of
/-- o[i] of a list, for o[i] += e -/
theorem get_list : PGet X (fun o i H Q => ∃ (p : Addr) (xs : List V) (j : Nat) (v : V), o = .ref p ∧ i = .int j ∧ SqL X.K H p xs ∧ xs[j]? = some v ∧ Q v H) := by
  intro pins s σ H o i ov iv Q I ro ri h
  obtain ⟨p, xs, j, v, rfl, rfl, hq, he, q⟩ := h
  cases ro
  obtain ⟨t, rfl⟩ := ri
  obtain ⟨its, r, pl, hz⟩ := I.list hq
  obtain ⟨u, eu, ru⟩ := r.get he
  have hj : j < its.length := (List.getElem?_eq_some_iff.mp eu).1
  have hl := r.length
  have hn := line63
  exact wpAny_getItem_list pl.isList (by omega) (by omega) (by simpa using eu) ⟨v, H, I, ru, q⟩
end
theorem walk_zipT {K : PySem.W.Frag} {a b : Addr} {xs ys : List V} {n : Nat} (hn : n = min xs.length ys.length) :
    Walk (RZ.ItzT K a b) n (fun H => SqT K H a xs ∧ SqT K H b ys) (YPair (fun i => xs[i]?) (fun i => ys[i]?)) := by
  subst hn
  constructor
  · rintro i H hi ⟨q1, q2⟩
    have h1 : i < xs.length := by omega
    have h2 : i < ys.length := by omega
    exact ⟨xs, ys, xs[i], ys[i], q1, q2, by simp [h1], by simp [h2]⟩
  · rintro H ⟨q1, q2⟩
    exact ⟨xs, ys, q1, q2, by omega⟩
  · rintro i H v H' _ ⟨q1, q2⟩ ⟨T, x, z, h1, h2, h3, h4, h5⟩
    exact ⟨T, x, z, h1, h2, h3, h4 xs q1, h5 ys q2⟩
end Pv
namespace Pv
open PySem PySem.Spec PyProof.Rows L2
/-! tuples never change -/
def TupK (H H' : Hp) : Prop := ∀ b xs, (H b = some (.tup xs) → H' b = some (.tup xs)) ∧ ∀ u, H b = some (.frz u (.tup xs)) → H' b = some (.frz u (.tup xs))
theorem TupK.refl (H : Hp) : TupK H H := fun _ _ => ⟨id, fun _ => id⟩
theorem TupK.trans {H H1 H2 : Hp} (a : TupK H H1) (b : TupK H1 H2) : TupK H H2 := fun c xs => ⟨fun h => (b c xs).1 ((a c xs).1 h), fun u h => (b c xs).2 u ((a c xs).2 u h)⟩
theorem TupK.rd {H H' : Hp} (s : TupK H H') {b : Addr} {xs : List V} (h : Rd H b (.tup xs)) : Rd H' b (.tup xs) := by
  rcases h with h | ⟨o, h⟩
  · exact .inl ((s _ _).1 h)
  · exact .inr ⟨o, (s _ _).2 o h⟩
theorem TupK.of {H H' : Hp} (s : Same H H') : TupK H H' := fun _ _ => ⟨fun h => s _ _ h, fun _ h => s _ _ h⟩
theorem TupK.new {H : Hp} {p : Addr} {o : HO} (np : H p = none) : TupK H (upd H p o) := .of (sameNew np)
theorem TupK.put {H : Hp} {p : Addr} {o : HO} {ys : List V} (e : H p = some (.lst ys)) : TupK H (upd H p o) := by
  intro b xs
  refine ⟨fun h => ?_, fun u h => ?_⟩
  · rw [upd_ne (ne_of h e (by intro z; cases z))]; exact h
  · rw [upd_ne (ne_of h e (by intro z; cases z))]; exact h
theorem TupK.sq {K : PySem.W.Frag} {H H' : Hp} {a : Addr} {xs : List V} (s : TupK H H') (h : SqT K H a xs) : SqT K H' a xs := by
  rcases h with h | h
  · exact .inl (s.rd h)
  · exact .inr h
mutual
def tupOnly : PyData → Bool
  | .none | .bool _ | .int _ | .str _ => true
  | .tuple xs => tupOnlyAll xs
  | .list _ | .dict _ => false
def tupOnlyAll : List PyData → Bool
  | [] => true
  | x :: xs => tupOnly x && tupOnlyAll xs
end
mutual
theorem TupK.dp {K : PySem.W.Frag} {H H' : Hp} (s : TupK H H') : ∀ (d : PyData) (v : V), tupOnly d = true → Dp K H v d → Dp K H' v d
  | .none, v, _, h => by cases h; exact .non
  | .bool b, v, _, h => by cases h; exact .bl _
  | .int b, v, _, h => by cases h; exact .int _
  | .str b, v, _, h => by cases h; exact .str _
  | .tuple xs, v, t, h => by
    cases h with
    | tup hs ha => exact .tup (s.sq hs) (TupK.dpAll s xs _ (by simpa [tupOnly] using t) ha)
  | .list _, v, t, _ => by simp [tupOnly] at t
  | .dict _, v, t, _ => by simp [tupOnly] at t
theorem TupK.dpAll {K : PySem.W.Frag} {H H' : Hp} (s : TupK H H') : ∀ (ds : List PyData) (vs : List V), tupOnlyAll ds = true → DpAll K H vs ds → DpAll K H' vs ds
  | [], vs, _, h => by cases h; exact .nil
  | d :: ds, vs, t, h => by
    have t' : tupOnly d = true ∧ tupOnlyAll ds = true := by simpa [tupOnlyAll] using t
    cases h with
    | cons h1 h2 => exact .cons (TupK.dp s d _ t'.1 h1) (TupK.dpAll s ds _ t'.2 h2)
end
theorem tupOnlyAll_of {ds : List PyData} (h : ∀ d ∈ ds, tupOnly d = true) : tupOnlyAll ds = true := by
  induction ds with
  | nil => simp [tupOnlyAll]
  | cons d ds ih => simp [tupOnlyAll, h d (by simp), ih (fun e he => h e (by simp [he]))]
/-! data -/
abbrev Gp := List Int × Int
def dI (ns : List Int) : PyData := .tuple (ns.map .int)
def dGrp (g : Gp) : PyData := .tuple [dI g.1, .int g.2]
def dInst (cs : List Int) (gs : List Gp) : PyData := .tuple [dI cs, .tuple (gs.map dGrp)]
def dAsg (rows : List (List Int)) : PyData := .tuple (rows.map dI)
theorem to_ints (ns : List Int) : tupOnlyAll (ns.map PyData.int) = true := tupOnlyAll_of (by intro d hd; obtain ⟨n, _, rfl⟩ := List.mem_map.mp hd; simp [tupOnly])
theorem to_dI (ns : List Int) : tupOnly (dI ns) = true := by simp [dI, tupOnly, to_ints]
theorem to_dGrp (g : Gp) : tupOnly (dGrp g) = true := by simp [dGrp, tupOnly, tupOnlyAll, to_dI]
theorem to_grps (gs : List Gp) : tupOnlyAll (gs.map dGrp) = true := tupOnlyAll_of (by intro d hd; obtain ⟨n, _, rfl⟩ := List.mem_map.mp hd; exact to_dGrp n)
theorem to_dInst (cs : List Int) (gs : List Gp) : tupOnly (dInst cs gs) = true := by simp [dInst, tupOnly, tupOnlyAll, to_dI, to_grps]
section
variable {K : PySem.W.Frag} {H : Hp}
theorem DpAll.len : ∀ {vs : List V} {ds : List PyData}, DpAll K H vs ds → vs.length = ds.length
  | _, _, .nil => rfl
  | _, _, .cons _ t => by simp [DpAll.len t]
theorem DpAll.ints : ∀ {ns : List Int} {vs : List V}, DpAll K H vs (ns.map PyData.int) → vs = ns.map V.int
  | [], _, h => by cases h; rfl
  | n :: ns, _, h => by
    cases h with
    | cons h1 h2 => cases h1; rw [DpAll.ints h2]; rfl
theorem dp_ints : ∀ (ns : List Int), DpAll K H (ns.map V.int) (ns.map PyData.int)
  | [] => .nil
  | n :: ns => .cons (.int n) (dp_ints ns)
theorem DpAll.at : ∀ {vs : List V} {ds : List PyData} {i : Nat} {v : V}, DpAll K H vs ds → vs[i]? = some v → ∃ d, ds[i]? = some d ∧ Dp K H v d
  | _, _, _, _, .nil, e => by simp at e
  | _, _, 0, _, .cons h _, e => by simp at e; subst e; exact ⟨_, rfl, h⟩
  | _, _, i + 1, v, .cons _ t, e => by
    obtain ⟨d, h1, h2⟩ := DpAll.at (i := i) t (by simpa using e)
    exact ⟨d, by simpa using h1, h2⟩
theorem DpAll.snoc : ∀ {vs : List V} {ds : List PyData} {v : V} {d : PyData}, DpAll K H vs ds → Dp K H v d → DpAll K H (vs ++ [v]) (ds ++ [d])
  | _, _, _, _, .nil, h => .cons h .nil
  | _, _, _, _, .cons h t, h' => .cons h (DpAll.snoc t h')
theorem sq_dI {a : Addr} {ns : List Int} (h : Dp K H (.ref a) (dI ns)) : SqT K H a (ns.map V.int) := by
  cases h with
  | tup hs ha => rw [DpAll.ints ha] at hs; exact hs
theorem dI_sq {a : Addr} {ns : List Int} (h : SqT K H a (ns.map V.int)) : Dp K H (.ref a) (dI ns) := .tup h (dp_ints ns)
theorem dI_ref {v : V} {ns : List Int} (h : Dp K H v (dI ns)) : ∃ a, v = .ref a ∧ SqT K H a (ns.map V.int) := by
  cases h with
  | tup hs ha => rw [DpAll.ints ha] at hs; exact ⟨_, rfl, hs⟩
theorem grp_ref {v : V} {g : Gp} (h : Dp K H v (dGrp g)) : ∃ a p, v = .ref a ∧ SqT K H a [.ref p, .int g.2] ∧ SqT K H p (g.1.map V.int) := by
  cases h with
  | tup hs ha =>
    cases ha with
    | cons h1 h2 =>
      cases h2 with
      | cons h3 h4 =>
        cases h4
        cases h3
        obtain ⟨p, rfl, hp⟩ := dI_ref h1
        exact ⟨_, p, rfl, hs, hp⟩
theorem inst_open {v : V} {cs : List Int} {gs : List Gp} (h : Dp K H v (dInst cs gs)) :
    ∃ a c g xs, v = .ref a ∧ SqT K H a [.ref c, .ref g] ∧ SqT K H c (cs.map V.int) ∧ SqT K H g xs ∧ DpAll K H xs (gs.map dGrp) := by
  cases h with
  | tup hs ha =>
    cases ha with
    | cons h1 h2 =>
      cases h2 with
      | cons h3 h4 =>
        cases h4
        obtain ⟨c, rfl, hc⟩ := dI_ref h1
        cases h3 with
        | tup hg hx => exact ⟨_, c, _, _, rfl, hs, hc, hg, hx⟩
end
/-! what repr wants of data -/
structure Fine (k B : Nat) (d : PyData) : Prop where
  sh : d.showable = true
  nd : d.hasDict = false
  dp : d.depth ≤ k
  ln : d.shown.length ≤ B
theorem Fine.mono {k k' B B' : Nat} {d : PyData} (h : Fine k B d) (hk : k ≤ k') (hB : B ≤ B') : Fine k' B' d := ⟨h.sh, h.nd, Nat.le_trans h.dp hk, Nat.le_trans h.ln hB⟩
/-! the drawing state of the law: a list of the cells, the rests and the turn -/
structure DS (H : Hp) (st c r : Addr) (t : Nat) : Prop where
  hs : H st = some (.lst [.ref c, .ref r, .int t])
  ex : ∃ cells rests : List Int, H c = some (.lst (cells.map V.int)) ∧ H r = some (.lst (rests.map V.int)) ∧ cells.length = rests.length ∧
    0 < cells.length ∧ cells.length ≤ 100 ∧ ∀ x ∈ rests, 0 ≤ x
  n1 : c ≠ r
  n2 : st ≠ c
  n3 : st ≠ r
def Ext (st r : Addr) (H H' : Hp) : Prop := ∀ b o, H b = some o → b ≠ st → b ≠ r → H' b = some o
section
variable {H H1 H2 : Hp} {st c r p : Addr} {t : Nat} {o : HO}
theorem Ext.trans (a : Ext st r H H1) (b : Ext st r H1 H2) : Ext st r H H2 := fun x o h n1 n2 => b x o (a x o h n1 n2) n1 n2
theorem Ext.of (s : Same H H1) : Ext st r H H1 := fun b o h _ _ => s b o h
theorem Ext.tup (d : DS H st c r t) (e : Ext st r H H1) : TupK H H1 := by
  obtain ⟨cells, rests, hc, hr, _⟩ := d.ex
  intro b xs
  refine ⟨fun h => ?_, fun u h => ?_⟩
  · exact e _ _ h (ne_of h d.hs (by intro z; cases z)) (ne_of h hr (by intro z; cases z))
  · exact e _ _ h (ne_of h d.hs (by intro z; cases z)) (ne_of h hr (by intro z; cases z))
theorem DS.same (d : DS H st c r t) (s : Same H H1) : DS H1 st c r t := by
  obtain ⟨cells, rests, hc, hr, q⟩ := d.ex
  exact ⟨s _ _ d.hs, ⟨cells, rests, s _ _ hc, s _ _ hr, q⟩, d.n1, d.n2, d.n3⟩
theorem DS.new (d : DS H st c r t) (np : H p = none) : DS (upd H p o) st c r t := d.same (sameNew np)
theorem DS.put (d : DS H st c r t) (h1 : p ≠ st) (h2 : p ≠ c) (h3 : p ≠ r) : DS (upd H p o) st c r t := by
  obtain ⟨cells, rests, hc, hr, q⟩ := d.ex
  exact ⟨by rw [upd_ne h1.symm]; exact d.hs, ⟨cells, rests, by rw [upd_ne h2.symm]; exact hc, by rw [upd_ne h3.symm]; exact hr, q⟩, d.n1, d.n2, d.n3⟩
/-- an address that was free while the state stood is none of its own -/
theorem DS.off (d : DS H st c r t) (np : H p = none) : p ≠ st ∧ p ≠ c ∧ p ≠ r := by
  obtain ⟨cells, rests, hc, hr, q⟩ := d.ex
  exact ⟨(ne_of_none d.hs np).symm, (ne_of_none hc np).symm, (ne_of_none hr np).symm⟩
end
end Pv
namespace Pv
open PySem PySem.Spec PyProof.Rows L2
/-! data of any kind: lists stand off the drawing state, dicts have leaves alone -/
def kD : Key → PyData
  | .inl i => .int i
  | .inr x => .str x
mutual
inductive Dq (K : PySem.W.Frag) (st r : Addr) (H : Hp) : V → PyData → Prop
  | non : Dq K st r H .non .none
  | bl (b : Bool) : Dq K st r H (.bl b) (.bool b)
  | int (i : Int) : Dq K st r H (.int i) (.int i)
  | str (x : Str) : Dq K st r H (.str x) (.str x)
  | lst {a : Addr} {xs : List V} {ds : List PyData} : H a = some (.lst xs) → a ≠ st → a ≠ r → a ≠ sysModules → DqAll K st r H xs ds → Dq K st r H (.ref a) (.list ds)
  | tup {a : Addr} {xs : List V} {ds : List PyData} : SqT K H a xs → DqAll K st r H xs ds → Dq K st r H (.ref a) (.tuple ds)
  | dct {a : Addr} {kvs : List (Key × Int)} : H a = some (.dK (kvs.map fun p => (p.1, V.int p.2))) → Dq K st r H (.ref a) (.dict (kvs.map fun p => (kD p.1, .int p.2)))
inductive DqAll (K : PySem.W.Frag) (st r : Addr) (H : Hp) : List V → List PyData → Prop
  | nil : DqAll K st r H [] []
  | cons {v : V} {vs : List V} {d : PyData} {ds : List PyData} : Dq K st r H v d → DqAll K st r H vs ds → DqAll K st r H (v :: vs) (d :: ds)
end
theorem keys_reads {P : Program} {w : World} {h : Heap} : ∀ {kvs : List (Key × Int)} {vs : List (Key × Value)} {es : List DictEntry}, KV (kvs.map fun p => (p.1, V.int p.2)) vs → Pairs (mixKind P w) es vs →
    ReadsAll h (es.map (·.key)) ((kvs.map fun p => (kD p.1, PyData.int p.2)).map (·.1)) [] ∧ ReadsAll h (es.map (·.val)) ((kvs.map fun p => (kD p.1, PyData.int p.2)).map (·.2)) []
  | [], _, _, rk, rp => by
    cases rk
    cases rp
    exact ⟨.nil, .nil⟩
  | p :: kvs, _, _, rk, rp => by
    obtain ⟨pk, pi⟩ := p
    rw [List.map_cons] at rk
    cases rk with
    | @cons _ q _ qs hq tq =>
      obtain ⟨qk, qv⟩ := q
      obtain ⟨h1, h2⟩ := hq
      simp only at h1 h2
      subst h1
      cases rp with
      | @cons e _ es _ he hv tp =>
        obtain ⟨r1, r2⟩ := keys_reads (h := h) tq tp
        simp only at he hv
        obtain ⟨t, ht⟩ := h2
        subst ht
        refine ⟨?_, ?_⟩
        · have k1 : Reads h e.key (kD pk) [] := by
            rcases keyIs_shape (show keyIs pk e.key = true from he) with ⟨i, t, e1, e2⟩ | ⟨x, t, e1, e2⟩
            · rw [e1, e2]; exact .int i t
            · rw [e1, e2]; exact .str x t
          exact ReadsAll.cons k1 r1
        · have k2 : Reads h e.val (.int pi) [] := by rw [hv]; exact .int pi t
          exact ReadsAll.cons k2 r2
section
variable {X : Cx} {pins : List (Addr × Obj)} {σ : L2.St} {H : Hp} {s : Shared} {st r : Addr}
mutual
theorem Dq.reads (I : Inv X pins σ H s) : ∀ (d : PyData) (v : V) (u : Value), Dq X.K st r H v d → RelV v u → ∃ as, Reads s.heap u d as ∧ sysModules ∉ as
  | .none, _, _, h, q => by
    cases h; cases q; exact ⟨[], .none, by simp⟩
  | .bool b, _, _, h, q => by
    cases h; cases q; exact ⟨[], .bool b, by simp⟩
  | .int i, _, _, h, q => by
    cases h; obtain ⟨t, e⟩ := q; subst e; exact ⟨[], .int i t, by simp⟩
  | .str x, _, _, h, q => by
    cases h; obtain ⟨t, e⟩ := q; subst e; exact ⟨[], .str x t, by simp⟩
  | .list ds, _, _, h, q => by
    cases h with
    | lst e _ _ n hd =>
      cases q
      obtain ⟨its, rel, ⟨o, m, ho, hc, _, hm⟩, _⟩ := I.list (SqL.of e)
      obtain ⟨as, h1, h2⟩ := DqAll.reads I ds _ its hd rel
      exact ⟨_, .list ho hc hm h1, by simp only [List.mem_cons, not_or]; exact ⟨fun z => n z.symm, h2⟩⟩
  | .tuple ds, _, _, h, q => by
    cases h with
    | tup e hd =>
      cases q
      obtain ⟨its, rel, ⟨o, ho, hc, m, hm⟩, _⟩ := I.tuple e
      obtain ⟨as, h1, h2⟩ := DqAll.reads I ds _ its hd rel
      exact ⟨_, .tuple ho hc hm h1, h2⟩
  | .dict _, _, _, h, q => by
    cases h with
    | dct e =>
      cases q
      obtain ⟨_, nb, vs, rk, o, es, ep, ho, hx, hm, _, rp, _⟩ := dk_of I.hok e
      obtain ⟨h1, h2⟩ := keys_reads (h := s.heap) rk rp
      exact ⟨_, .dict ho hx.1 hm h1 h2, by simp only [List.nil_append, List.append_nil, List.mem_singleton, List.mem_cons, List.not_mem_nil, or_false]; exact fun z => absurd z.symm (by simpa using nb)⟩
theorem DqAll.reads (I : Inv X pins σ H s) : ∀ (ds : List PyData) (vs : List V) (us : List Value), DqAll X.K st r H vs ds → Vals vs us → ∃ as, ReadsAll s.heap us ds as ∧ sysModules ∉ as
  | [], _, _, h, q => by
    cases h; cases q; exact ⟨[], .nil, by simp⟩
  | d :: ds, _, _, h, q => by
    cases h with
    | cons h1 h2 =>
      cases q with
      | cons q1 q2 =>
        obtain ⟨as, e1, n1⟩ := Dq.reads I d _ _ h1 q1
        obtain ⟨bs, e2, n2⟩ := DqAll.reads I ds _ _ h2 q2
        exact ⟨_, .cons e1 e2, by simp only [List.mem_append, not_or]; exact ⟨n1, n2⟩⟩
end
end
/-- repr of such data -/
theorem call_reprQ {X : Cx} (hg : X.A.guards = some []) (hu : X.A.units + 70 < cLine) : CallR X (.builtin "repr")
    (fun xs H Q => ∃ a d st r, xs = [.ref a] ∧ Dq X.K st r H (.ref a) d ∧ d.showable = true ∧ d.depth ≤ 60 ∧ d.shown.length ≤ sizeLine ∧ Q (.str d.shown) H) := by
  intro pins s σ H xs us Q I rv h
  obtain ⟨a, d, st, r, rfl, hd, h1, h3, h4, q⟩ := h
  obtain ⟨u, rfl, rfl⟩ := vals1 rv
  obtain ⟨as, rd, nm⟩ := Dq.reads I d _ _ hd rfl
  exact repr_of_reads' rd h1 (fun _ => nm) hg (by omega) (fun _ _ e => e) (fun h' u tk hk => ⟨.str _, H, I.kept hk, ⟨_, rfl⟩, q⟩) h4
/-! how it lasts -/
section
variable {K : PySem.W.Frag} {st r c : Addr} {H H' : Hp}
structure Lasts (st r : Addr) (H H' : Hp) : Prop where
  tk : TupK H H'
  ls : ∀ a xs, H a = some (.lst xs) → a ≠ st → a ≠ r → H' a = some (.lst xs)
  dk : ∀ a kvs, H a = some (.dK kvs) → H' a = some (.dK kvs)
theorem Lasts.refl : Lasts st r H H := ⟨.refl _, fun _ _ e _ _ => e, fun _ _ e => e⟩
theorem Lasts.of (s : Same H H') : Lasts st r H H' := ⟨.of s, fun a xs e _ _ => s _ _ e, fun a kvs e => s _ _ e⟩
theorem Lasts.trans {H2 : Hp} (a : Lasts st r H H') (b : Lasts st r H' H2) : Lasts st r H H2 :=
  ⟨a.tk.trans b.tk, fun p xs e n1 n2 => b.ls _ _ (a.ls _ _ e n1 n2) n1 n2, fun p kvs e => b.dk _ _ (a.dk _ _ e)⟩
theorem Lasts.new {p : Addr} {o : HO} (np : H p = none) : Lasts st r H (upd H p o) := .of (sameNew np)
mutual
theorem Dq.lasts (l : Lasts st r H H') : ∀ {d : PyData} {v : V}, Dq K st r H v d → Dq K st r H' v d
  | .none, _, h => by cases h; exact .non
  | .bool _, _, h => by cases h; exact .bl _
  | .int _, _, h => by cases h; exact .int _
  | .str _, _, h => by cases h; exact .str _
  | .list _, _, h => by
    cases h with
    | lst e n1 n2 n3 hd => exact .lst (l.ls _ _ e n1 n2) n1 n2 n3 (DqAll.lasts l hd)
  | .tuple _, _, h => by
    cases h with
    | tup e hd => exact .tup (l.tk.sq e) (DqAll.lasts l hd)
  | .dict _, _, h => by
    cases h with
    | dct e => exact .dct (l.dk _ _ e)
theorem DqAll.lasts (l : Lasts st r H H') : ∀ {ds : List PyData} {vs : List V}, DqAll K st r H vs ds → DqAll K st r H' vs ds
  | [], _, h => by cases h; exact .nil
  | _ :: _, _, h => by
    cases h with
    | cons h1 h2 => exact .cons (Dq.lasts l h1) (DqAll.lasts l h2)
end
mutual
theorem Dq.of_dp : ∀ {d : PyData} {v : V}, tupOnly d = true → Dp K H v d → Dq K st r H v d
  | .none, _, _, h => by cases h; exact .non
  | .bool _, _, _, h => by cases h; exact .bl _
  | .int _, _, _, h => by cases h; exact .int _
  | .str _, _, _, h => by cases h; exact .str _
  | .list _, _, t, _ => by simp [tupOnly] at t
  | .tuple _, _, t, h => by
    cases h with
    | tup e hd => exact .tup e (DqAll.of_dp (by simpa [tupOnly] using t) hd)
  | .dict _, _, t, _ => by simp [tupOnly] at t
theorem DqAll.of_dp : ∀ {ds : List PyData} {vs : List V}, tupOnlyAll ds = true → DpAll K H vs ds → DqAll K st r H vs ds
  | [], _, _, h => by cases h; exact .nil
  | d :: ds, _, t, h => by
    have t' : tupOnly d = true ∧ tupOnlyAll ds = true := by simpa [tupOnlyAll] using t
    cases h with
    | cons h1 h2 => exact .cons (Dq.of_dp t'.1 h1) (DqAll.of_dp t'.2 h2)
theorem Dq.to_dp : ∀ {d : PyData} {v : V}, tupOnly d = true → Dq K st r H v d → Dp K H v d
  | .none, _, _, h => by cases h; exact .non
  | .bool _, _, _, h => by cases h; exact .bl _
  | .int _, _, _, h => by cases h; exact .int _
  | .str _, _, _, h => by cases h; exact .str _
  | .list _, _, t, _ => by simp [tupOnly] at t
  | .tuple _, _, t, h => by
    cases h with
    | tup e hd => exact .tup e (DqAll.to_dp (by simpa [tupOnly] using t) hd)
  | .dict _, _, t, _ => by simp [tupOnly] at t
theorem DqAll.to_dp : ∀ {ds : List PyData} {vs : List V}, tupOnlyAll ds = true → DqAll K st r H vs ds → DpAll K H vs ds
  | [], _, _, h => by cases h; exact .nil
  | d :: ds, _, t, h => by
    have t' : tupOnly d = true ∧ tupOnlyAll ds = true := by simpa [tupOnlyAll] using t
    cases h with
    | cons h1 h2 => exact .cons (Dq.to_dp t'.1 h1) (DqAll.to_dp t'.2 h2)
end
theorem DqAll.len : ∀ {vs : List V} {ds : List PyData}, DqAll K st r H vs ds → vs.length = ds.length
  | _, _, .nil => rfl
  | _, _, .cons _ t => by simp [DqAll.len t]
theorem DqAll.at : ∀ {vs : List V} {ds : List PyData} {i : Nat} {v : V}, DqAll K st r H vs ds → vs[i]? = some v → ∃ d, ds[i]? = some d ∧ Dq K st r H v d
  | _, _, _, _, .nil, e => by simp at e
  | _, _, 0, _, .cons h _, e => by simp at e; subst e; exact ⟨_, rfl, h⟩
  | _, _, i + 1, v, .cons _ t, e => by
    obtain ⟨d, h1, h2⟩ := DqAll.at (i := i) t (by simpa using e)
    exact ⟨d, by simpa using h1, h2⟩
theorem DqAll.app : ∀ {vs ws : List V} {ds es : List PyData}, DqAll K st r H vs ds → DqAll K st r H ws es → DqAll K st r H (vs ++ ws) (ds ++ es)
  | _, _, _, _, .nil, h => h
  | _, _, _, _, .cons h t, h' => .cons h (DqAll.app t h')
theorem DqAll.snoc {vs : List V} {ds : List PyData} {v : V} {d : PyData} (h : DqAll K st r H vs ds) (h' : Dq K st r H v d) : DqAll K st r H (vs ++ [v]) (ds ++ [d]) := h.app (.cons h' .nil)
theorem DqAll.take : ∀ {vs : List V} {ds : List PyData} (n : Nat), DqAll K st r H vs ds → DqAll K st r H (vs.take n) (ds.take n)
  | _, _, 0, _ => .nil
  | _, _, _ + 1, .nil => .nil
  | _, _, n + 1, .cons h t => .cons h (DqAll.take n t)
theorem DqAll.drop : ∀ {vs : List V} {ds : List PyData} (n : Nat), DqAll K st r H vs ds → DqAll K st r H (vs.drop n) (ds.drop n)
  | _, _, 0, h => h
  | _, _, _ + 1, .nil => .nil
  | _, _, n + 1, .cons _ t => DqAll.drop n t
/-- its type -/
def tyN : PyData → String
  | .none => "NoneType"
  | .bool _ => "bool"
  | .int _ => "int"
  | .str _ => "str"
  | .list _ => "list"
  | .tuple _ => "tuple"
  | .dict _ => "dict"
theorem Dq.ty {d : PyData} {v : V} (h : Dq K st r H v d) : TyX K H v (.type (tyN d)) := by
  cases h with
  | non => exact .base .non
  | bl b => exact .base (.bl b)
  | int i => exact .base (.int i)
  | str x => exact .base (.str x)
  | lst e => exact .base (.lst e)
  | tup e _ =>
    rcases e with (e | ⟨o, e⟩) | ⟨o, its, n, e, hc, _⟩
    · exact .base (.tup e)
    · exact .fTuple e
    · exact .kTuple e hc
  | dct e => exact .base (.dK e)
def isTup : PyData → Bool
  | .tuple _ => true
  | _ => false
def isInt : PyData → Bool
  | .int _ => true
  | .bool _ => true
  | _ => false
def isBool : PyData → Bool
  | .bool _ => true
  | _ => false
theorem kit_tup (d : PyData) : PySem.W.kitOne K (.type (tyN d)) (.type "tuple") = some (isTup d) := by
  have key : ∀ a b : String, ∀ x : Bool, kitB a b = some x → PySem.W.kitOne K (.type a) (.type b) = some x := fun _ _ _ h => kit_ty h
  cases d
  · exact key "NoneType" "tuple" false (by decide +kernel)
  · exact key "bool" "tuple" false (by decide +kernel)
  · exact key "int" "tuple" false (by decide +kernel)
  · exact key "str" "tuple" false (by decide +kernel)
  · exact key "list" "tuple" false (by decide +kernel)
  · exact key "tuple" "tuple" true (by decide +kernel)
  · exact key "dict" "tuple" false (by decide +kernel)
theorem kit_int (d : PyData) : PySem.W.kitOne K (.type (tyN d)) (.type "int") = some (isInt d) := by
  have key : ∀ a b : String, ∀ x : Bool, kitB a b = some x → PySem.W.kitOne K (.type a) (.type b) = some x := fun _ _ _ h => kit_ty h
  cases d
  · exact key "NoneType" "int" false (by decide +kernel)
  · exact key "bool" "int" true (by decide +kernel)
  · exact key "int" "int" true (by decide +kernel)
  · exact key "str" "int" false (by decide +kernel)
  · exact key "list" "int" false (by decide +kernel)
  · exact key "tuple" "int" false (by decide +kernel)
  · exact key "dict" "int" false (by decide +kernel)
theorem kit_bool (d : PyData) : PySem.W.kitOne K (.type (tyN d)) (.type "bool") = some (isBool d) := by
  have key : ∀ a b : String, ∀ x : Bool, kitB a b = some x → PySem.W.kitOne K (.type a) (.type b) = some x := fun _ _ _ h => kit_ty h
  cases d
  · exact key "NoneType" "bool" false (by decide +kernel)
  · exact key "bool" "bool" true (by decide +kernel)
  · exact key "int" "bool" false (by decide +kernel)
  · exact key "str" "bool" false (by decide +kernel)
  · exact key "list" "bool" false (by decide +kernel)
  · exact key "tuple" "bool" false (by decide +kernel)
  · exact key "dict" "bool" false (by decide +kernel)
end
/-! a new list, whose address is none of the machine's own -/
def tLstS (t : TA) : TE := fun σ H Q => t σ H fun xs H1 => xs.length ≤ sizeLine ∧ ∀ p, H1 p = none → p ≠ sysModules → Q (.ref p) (upd H1 p (.lst xs))
section
variable {X : Cx} {es : List Expr} {pos : Pos} {t : TA}
def rListS (K : PySem.W.Frag) : RC := fun xs H Q => ∃ (p : Addr) (ys : List V), xs = [.ref p] ∧ SqT K H p ys ∧ ∀ l, H l = none → l ≠ sysModules → Q (.ref l) (upd H l (.lst ys))
end
end Pv
namespace Pv
open PySem PySem.Spec PyProof.Rows L2
/-! enumerate of a tuple -/
theorem enumT_new (l : Addr) (items : Array Value) (n : Nat) (dct : Option Addr) (sl : Array (Option Value)) :
    Meets (Builtin.«enumerate.__new__» ⟨[.type "enumerate", .ref l], []⟩) (fun _ R s =>
      s.heap.get? l = some { cls := .type "tuple", dict := dct, data := .seq items n, slots := sl } ∧
      R (.ok (.ret (.ref (s.heap.push { cls := .type "tuple_iterator", data := .fields #[.ref l, .int 0 0] }).objs.size)))
        { s with heap := Heap.push (s.heap.push { cls := .type "tuple_iterator", data := .fields #[.ref l, .int 0 0] }) { cls := .type "enumerate", data := .fields #[.none, .bool false, .ref s.heap.objs.size, rawInt 0, .none, .none] } }) :=
  .of_wp fun prog w A R s h => by
    obtain ⟨hp, g, d, tk, os⟩ := s
    obtain ⟨hl, h⟩ := h
    have hsub := sub_enumerate
    have hL : Heap.IsTuple (Shared.heap ⟨hp, g, d, tk, os⟩) l items := ⟨_, hl, rfl, n, rfl⟩
    wp_walk using AutoSeq1.wpAny_loadPart' hl
    refine wpAny_stack_any fun st => wpAny_pure ?_
    split
    · rename_i c _ _ _ _ _
      cases (c == Value.type "enumerate") <;>
        (wp_walk using AutoSeq1.wpAny_loadPart' hl, wpAny_pyIter_tuple hL; exact ⟨_, rfl, h⟩)
    · wp_walk using AutoSeq1.wpAny_loadPart' hl, wpAny_pyIter_tuple hL
      exact ⟨_, rfl, h⟩
theorem call_enumT {prog : Program} {w : World} {A : Around} {E : Value → Shared → Prop} {s : Shared} {l : Addr} {items : Array Value} {Q : Value → Shared → Prop} (hL : s.heap.IsTuple l items)
    (h : ∀ h', IsEnum h' (s.heap.objs.size + 1) s.heap.objs.size 0 .none → h'.IsTupleIter s.heap.objs.size l 0 →
      (∀ b o, s.heap.get? b = some o → h'.get? b = some o) → Q (.ref (s.heap.objs.size + 1)) { s with heap := h' }) :
    wpAny (model prog w) A (call (.type "enumerate") [.ref l]) Q E s := by
  obtain ⟨⟨c, dct, dt, sl⟩, hl, hc, n, hd⟩ := hL
  simp only at hc hd
  subst hc hd
  refine callType_new F.called_enumerate (by decide) (F.typeCall_enumerate_1 _) (F.newCall_enumerate_1 _) (fun obj => F.args_object_init_2 obj _) F.entry_enumerate_new (enumT_new l items n dct sl) ⟨hl, ?_⟩
  have hz : (s.heap.push { cls := .type "tuple_iterator", data := .fields #[.ref l, .int 0 0] }).objs.size = s.heap.objs.size + 1 := Heap.size_push ..
  show _ ∧ _
  rw [hz]
  have ge : IsEnum (Heap.push (s.heap.push { cls := .type "tuple_iterator", data := .fields #[.ref l, .int 0 0] }) { cls := .type "enumerate", data := .fields #[.none, .bool false, .ref s.heap.objs.size, rawInt 0, .none, .none] }) (s.heap.objs.size + 1) s.heap.objs.size 0 .none := by
    rw [← hz]
    exact Heap.get?_push_size _ rfl
  exact ⟨⟨_, ge, rfl⟩, h _ ge ⟨_, Heap.get?_push_of_some _ (Heap.get?_push_size _ rfl), rfl, rfl⟩ fun b o x => Heap.get?_push_of_some _ (Heap.get?_push_of_some _ x)⟩
def IteT (K : PySem.W.Frag) (a : Addr) : It :=
  ⟨fun i H => ∃ (xs : List V) (x : V), SqT K H a xs ∧ xs[i]? = some x,
   fun i H v H' => ∃ T x, v = .ref T ∧ H T = none ∧ H' = upd H T (.tup [.int (i : Nat), x]) ∧ ∀ xs, SqT K H a xs → xs[i]? = some x,
   fun i H => ∃ xs : List V, SqT K H a xs ∧ xs.length = i⟩
theorem tupLt {h : Heap} {a : Addr} {its : Array Value} (p : IsTup h a its) : a < h.objs.size := by obtain ⟨_, e, _⟩ := p; exact Heap.lt_size e
theorem turn_enumT {P : Program} {w : World} {K : PySem.W.Frag} {elts : List Expr} {kk : Nat} {tpos : Pos} (a e it : Addr) :
    Turn P w K (.Tuple elts kk tpos) (IteT K a) [e, it] e (fun i h => (∃ old, IsEnum h e it ((i : Nat) : Int) old) ∧ h.IsTupleIter it a i ∧ e ≠ it) where
  mem := by simp
  obj := by
    rintro i h ⟨⟨old, he⟩, ⟨o, ho, hc, hd⟩, _⟩ b hb
    simp only [List.mem_cons, List.not_mem_nil, or_false] at hb
    rcases hb with rfl | rfl
    · exact ⟨_, he, fun v q => nomatch q⟩
    · exact ⟨o, ho, fun v q => by rw [hd] at q; cases q⟩
  keep := by
    rintro i h h' ⟨⟨old, he⟩, hi, hne⟩ k
    exact ⟨⟨old, k e (by simp) _ he⟩, hi.at fun o q => k it (by simp) o q, hne⟩
  item := by
    intro X hP hw hK hc i pins s σ H E I hf st hg
    subst hP hw hK
    obtain ⟨⟨old, he⟩, hit, hne⟩ := st
    obtain ⟨xs, x, hq, hx⟩ := hg
    obtain ⟨its, rv, p, hz⟩ := I.tuple hq
    obtain ⟨u, hu, ru⟩ := rv.get hx
    have hel : e < s.heap.objs.size := Heap.lt_size he
    have hil : it < s.heap.objs.size := by obtain ⟨_, q, _⟩ := hit; exact Heap.lt_size q
    have nea : e ≠ a := by
      rintro rfl
      obtain ⟨o, ho, hcl, _⟩ := p
      rw [he] at ho
      cases ho
      injection hcl with hcl
      exact absurd hcl (by decide)
    have nia : a ≠ it := by
      rintro rfl
      obtain ⟨o, ho, hcl, _⟩ := p
      obtain ⟨o2, ho2, hcl2, _⟩ := hit
      rw [ho] at ho2
      cases ho2
      rw [hcl] at hcl2
      injection hcl2 with hcl2
      exact absurd hcl2 (by decide)
    have hlt : i < its.toArray.size := by have := (List.getElem?_eq_some_iff.mp hu).1; simpa using this
    refine wpAny_pyNext_enum_itemD (Draws.tuple (A := X.A.in1) (I.ok.hd hc) it a nia its.toArray) he ⟨hit, p⟩ hlt hne (by simp [hne, nea]) ?_
    intro u' h' tk hu' ho st' hT hsz hk
    have hu2 : its.toArray[i]? = some u' := hu'
    have : u' = u := by
      have h3 : its.toArray[i]? = some u := by simpa using hu
      rw [h3] at hu2
      exact (Option.some.inj hu2).symm
    subst this
    refine ⟨_, rfl, wpAny_letOwnedTupleGo_enum (s := { s with heap := h', toks := tk + 1 }) ho fun h'' he' sb => ?_⟩
    have hT2 : h''.get? s.heap.objs.size = some { cls := .type "tuple", data := .seq #[.int i tk, u'] } := (sb.2 _ (Nat.ne_of_gt hel)).trans hT
    have new : ObjOk X.prog X.w (upd H s.heap.objs.size (.tup [.int (i : Nat), x])) h'' s.heap.objs.size (.tup [.int (i : Nat), x]) :=
      ⟨by show 2 ≤ sizeLine; decide, [.int i tk, u'], .cons ⟨_, rfl⟩ (.cons ru .nil), ⟨_, hT2, rfl, _, rfl⟩⟩
    have kk : ∀ b ob, b ∉ [e, it] → s.heap.get? b = some ob → h''.get? b = some ob := by
      intro b ob hb q
      have h1 : b ≠ e := fun z => hb (by simp [z])
      have h2 : b ≠ it := fun z => hb (by simp [z])
      exact (sb.2 b h1).trans (hk b ob h1 h2 q)
    have I1 : Inv X pins σ (upd H s.heap.objs.size (.tup [.int (i : Nat), x])) { s with heap := h'', toks := tk + 1 } :=
      I.turnedNew (ch := [e, it]) kk hf (Nat.le_refl _) new
    refine ⟨.ref s.heap.objs.size, _, I1, rfl, ⟨_, x, rfl, I.hok.fresh (Nat.le_refl _), rfl, fun ys hy => by rw [I.tuple_inj hy hq]; exact hx⟩, ⟨⟨u', ?_⟩, st'.1.at fun o q => (sb.2 it (Ne.symm hne)).trans q, hne⟩, fun b hb => ?_⟩
    · rw [show ((i + 1 : Nat) : Int) = (i : Int) + 1 by omega]; exact he'
    · have hb' : b < s.heap.objs.size := by
        simp only [List.mem_cons, List.not_mem_nil, or_false] at hb
        rcases hb with rfl | rfl <;> assumption
      rw [upd_ne (Nat.ne_of_lt hb')]
      exact (hf b hb).1
  done := by
    intro X hP hw hK hc i pins s σ H E I hf st hg
    subst hP hw hK
    obtain ⟨⟨old, he⟩, hit, hne⟩ := st
    obtain ⟨xs, hq, hx⟩ := hg
    obtain ⟨its, rv, p, hz⟩ := I.tuple hq
    obtain ⟨f0, f1, f2, f3, f4, f5⟩ := hf it (by simp)
    have hl := rv.length
    have nia : a ≠ it := by
      rintro rfl
      obtain ⟨o, ho, hcl, _⟩ := p
      obtain ⟨o2, ho2, hcl2, _⟩ := hit
      rw [ho] at ho2
      cases ho2
      rw [hcl] at hcl2
      injection hcl2 with hcl2
      exact absurd hcl2 (by decide)
    have hi : i = its.toArray.size := by rw [List.size_toArray]; omega
    refine wpAny_pyNext_enum_endD (Draws.tuple (A := X.A.in1) (I.ok.hd hc) it a nia its.toArray) he (by rw [← hi]; exact ⟨hit, p⟩) fun h' eb => ⟨rfl, I.turned (t' := s.toks) (fun b o hb q => eb b o hb q) f0 f1 f3 f4 f5⟩
  self := by
    rintro A i s Q E ⟨⟨_, he⟩, _⟩ h
    exact wpAny_pyIter_enum he h
def iEnumT (K : PySem.W.Frag) (ta : TA) : TI := fun σ H R => ta σ H fun vs H1 => ∃ a xs, vs = [.ref a] ∧ SqT K H1 a xs ∧ R (IteT K a) H1
theorem pi_enumT {X : Cx} {e : Expr} {ta : TA} {p pos tpos : Pos} {elts : List Expr} {kk : Nat} (hg : Gl X "enumerate") (hm : X.mg "enumerate" = none) (ha : PA X [e] ta)
    (hs : starEach [e] X.env = [(false, eval e X.env)] := by rfl) : PI X (.Tuple elts kk tpos) (.Call (.Name "enumerate" p) [e] [] pos) (iEnumT X.K ta) := by
  constructor
  intro pins s σ H R I h
  refine Call_ (ld_blt I hg hm boot_enumerate (PyProof.Rows.callWith_type1 (thn (ha.run pos pins s σ H _ I h) ?_) hs rfl))
  rintro us s1 ⟨vs, H1, I1, r1, a, xs, rfl, hq, q⟩
  obtain ⟨u, rfl, rfl⟩ := vals1 r1
  obtain ⟨its, rv, p', hz⟩ := I1.tuple hq
  refine call_enumT (show s1.heap.IsTuple a its.toArray from p') fun h' he hit hk => wpAny_pyIter_enum he ?_
  have I2 : Inv X pins σ H1 { s1 with heap := h' } := I1.kept (t' := s1.toks) hk
  refine ⟨s1.heap.objs.size + 1, [s1.heap.objs.size + 1, s1.heap.objs.size], _, _, H1, rfl, I2, turn_enumT a (s1.heap.objs.size + 1) s1.heap.objs.size, ⟨⟨.none, he⟩, hit, Nat.succ_ne_self _⟩, ?_, q⟩
  intro b hb
  have hle : s1.heap.objs.size ≤ b := by
    simp only [List.mem_cons, List.not_mem_nil, or_false] at hb
    rcases hb with rfl | rfl <;> omega
  exact I1.fpOk hle (I1.hok.fresh hle)
theorem walk_enumT {K : PySem.W.Frag} {a : Addr} {xs : List V} : Walk (IteT K a) xs.length (fun H => SqT K H a xs) (YPair (fun i => some (.int (i : Nat))) (fun i => xs[i]?)) := by
  constructor
  · intro i H hi q
    exact ⟨xs, xs[i], q, by simp [hi]⟩
  · intro H q
    exact ⟨xs, q, rfl⟩
  · rintro i H v H' _ q ⟨T, x, h1, h2, h3, h4⟩
    exact ⟨T, _, x, h1, h2, h3, rfl, h4 xs q⟩
/-! zip of a list and a tuple -/
abbrev zm1 (h : Heap) (l1 : Addr) : Heap := h.push { cls := .type "list_iterator", data := .fields #[.ref l1, .int 0 0] }
abbrev zm2 (h : Heap) (l1 l2 : Addr) : Heap := (zm1 h l1).push { cls := .type "tuple_iterator", data := .fields #[.ref l2, .int 0 0] }
abbrev zm3 (h : Heap) (l1 l2 : Addr) : Heap := (zm2 h l1 l2).push { cls := .type "tuple", data := .seq #[.ref h.objs.size, .ref (zm1 h l1).objs.size] }
abbrev zm4 (h : Heap) (l1 l2 : Addr) : Heap := (zm3 h l1 l2).push { cls := .type "tuple", data := .seq #[.none, .none] }
abbrev zm5 (h : Heap) (l1 l2 : Addr) : Heap := (zm4 h l1 l2).push { cls := .type "zip", data := .fields #[.none, .bool false, .bool false, .ref (zm2 h l1 l2).objs.size, .ref (zm3 h l1 l2).objs.size] }
theorem zipM_new (l1 l2 : Addr) (xs ys : Array Value) :
    Meets (Builtin.«zip.__new__» ⟨[.type "zip", .ref l1, .ref l2], []⟩) (fun _ R s => s.heap.IsList l1 xs ∧ s.heap.IsTuple l2 ys ∧
      R (.ok (.ret (.ref (zm4 s.heap l1 l2).objs.size))) { s with heap := zm5 s.heap l1 l2 }) :=
  .of_wp fun prog w A R s h => by
    obtain ⟨hp, g, d, tk, os⟩ := s
    obtain ⟨hl1, hl2, h⟩ := h
    have hsub := sub_zip
    have hL1 : Heap.IsList (Shared.heap ⟨hp, g, d, tk, os⟩) l1 xs := hl1
    have hL2 : Heap.IsTuple (Shared.heap ⟨zm1 hp l1, g, d, tk, os⟩) l2 ys := Heap.IsTuple.push hl2 _
    wp_walk using wpAny_pyIter_list hL1, wpAny_pyIter_tuple hL2
    exact ⟨_, rfl, h⟩
theorem call_zipM {prog : Program} {w : World} {A : Around} {E : Value → Shared → Prop} {s : Shared} {l1 l2 : Addr} {xs ys : Array Value} {Q : Value → Shared → Prop} (hl1 : s.heap.IsList l1 xs) (hl2 : s.heap.IsTuple l2 ys)
    (h : ∀ h', IsZip h' (s.heap.objs.size + 4) (s.heap.objs.size + 2) (s.heap.objs.size + 3) .none → IsPair h' (s.heap.objs.size + 2) (.ref s.heap.objs.size) (.ref (s.heap.objs.size + 1)) →
      IsPair h' (s.heap.objs.size + 3) .none .none → h'.IsListIter s.heap.objs.size l1 0 → h'.IsTupleIter (s.heap.objs.size + 1) l2 0 →
      (∀ c o, s.heap.get? c = some o → h'.get? c = some o) → Q (.ref (s.heap.objs.size + 4)) { s with heap := h' }) :
    wpAny (model prog w) A (call (.type "zip") [.ref l1, .ref l2]) Q E s := by
  refine callType_new F.called_zip (by decide) (F.typeCall_zip_2 _ _) (F.newCall_zip_2 _ _) (fun obj => F.args_object_init_3 obj _ _) F.entry_zip_new (zipM_new l1 l2 xs ys) ⟨hl1, hl2, ?_⟩
  have z1 : (zm1 s.heap l1).objs.size = s.heap.objs.size + 1 := Heap.size_push ..
  have z2 : (zm2 s.heap l1 l2).objs.size = s.heap.objs.size + 2 := by rw [Heap.size_push, z1]
  have z3 : (zm3 s.heap l1 l2).objs.size = s.heap.objs.size + 3 := by rw [Heap.size_push, z2]
  have z4 : (zm4 s.heap l1 l2).objs.size = s.heap.objs.size + 4 := by rw [Heap.size_push, z3]
  have g5 : (zm5 s.heap l1 l2).get? (zm4 s.heap l1 l2).objs.size = some _ := Heap.get?_push_size _ rfl
  have g4 : (zm5 s.heap l1 l2).get? (zm3 s.heap l1 l2).objs.size = some _ := Heap.get?_push_of_some _ (Heap.get?_push_size _ rfl)
  have g3 : (zm5 s.heap l1 l2).get? (zm2 s.heap l1 l2).objs.size = some _ := Heap.get?_push_of_some _ (Heap.get?_push_of_some _ (Heap.get?_push_size _ rfl))
  have g2 : (zm5 s.heap l1 l2).get? (zm1 s.heap l1).objs.size = some _ := Heap.get?_push_of_some _ (Heap.get?_push_of_some _ (Heap.get?_push_of_some _ (Heap.get?_push_size _ rfl)))
  have g1 : (zm5 s.heap l1 l2).get? s.heap.objs.size = some _ := Heap.get?_push_of_some _ (Heap.get?_push_of_some _ (Heap.get?_push_of_some _ (Heap.get?_push_of_some _ (Heap.get?_push_size _ rfl))))
  show _ ∧ _
  rw [z2, z3, z4] at g5
  rw [z1, z2] at g3
  rw [z3] at g4
  rw [z1] at g2
  rw [z4]
  refine ⟨⟨_, g5, rfl⟩, h _ g5 g3 g4 ⟨_, g1, rfl, rfl⟩ ⟨_, g2, rfl, rfl⟩ ?_⟩
  intro c o x
  exact Heap.get?_push_of_some _ (Heap.get?_push_of_some _ (Heap.get?_push_of_some _ (Heap.get?_push_of_some _ (Heap.get?_push_of_some _ x))))
def ItzM (K : PySem.W.Frag) (a b : Addr) : It :=
  ⟨fun i H => ∃ (xs ys : List V) (x y : V), SqL K H a xs ∧ SqT K H b ys ∧ xs[i]? = some x ∧ ys[i]? = some y,
   fun i H v H' => ∃ T x y, v = .ref T ∧ H T = none ∧ H' = upd H T (.tup [x, y]) ∧ (∀ xs, SqL K H a xs → xs[i]? = some x) ∧ ∀ ys, SqT K H b ys → ys[i]? = some y,
   fun i H => ∃ xs ys : List V, SqL K H a xs ∧ SqT K H b ys ∧ min xs.length ys.length = i⟩
theorem sepM {z TI TO i1 i2 a b : Addr} (D : ZipApart z TI TO i1 i2 a b) : ZipSep2 z TI TO i1 i2 [i1, a] [i2, b] := by
  refine ⟨D.TIz, D.TOz, D.TITO, D.TIi1, by simp, ?_, ?_, D.TIi2, by simp, ?_, ?_, ?_, ?_⟩ <;>
    simp only [List.mem_cons, List.not_mem_nil, or_false, not_or]
  · exact ⟨D.i1z.symm, D.l1z.symm⟩
  · exact ⟨D.TOi1, D.l1TO.symm⟩
  · exact ⟨D.i2z.symm, D.l2z.symm⟩
  · exact ⟨D.TOi2, D.l2TO.symm⟩
  · exact ⟨D.i12, D.l2i1.symm⟩
  · exact ⟨D.i12.symm, D.l1i2.symm⟩
theorem turn_zipM {P : Program} {w : World} {K : PySem.W.Frag} {elts : List Expr} {kk : Nat} {tpos : Pos} {a b z TI TO i1 i2 : Addr} (D : ZipApart z TI TO i1 i2 a b) :
    Turn P w K (.Tuple elts kk tpos) (ItzM K a b) [z, TI, TO, i1, i2] z
      (fun i h => IsZip h z TI TO .none ∧ IsPair h TI (.ref i1) (.ref i2) ∧ (∃ x y, IsPair h TO x y) ∧ h.IsListIter i1 a i ∧ h.IsTupleIter i2 b i) where
  mem := by simp
  obj := by
    rintro i h ⟨hz, hTI, ⟨x, y, hTO⟩, ⟨o1, e1, _, d1⟩, ⟨o2, e2, _, d2⟩⟩ c hc
    simp only [List.mem_cons, List.not_mem_nil, or_false] at hc
    rcases hc with rfl | rfl | rfl | rfl | rfl
    · exact ⟨_, hz, fun v q => nomatch q⟩
    · exact ⟨_, hTI, fun v q => nomatch q⟩
    · exact ⟨_, hTO, fun v q => nomatch q⟩
    · exact ⟨o1, e1, fun v q => by rw [d1] at q; cases q⟩
    · exact ⟨o2, e2, fun v q => by rw [d2] at q; cases q⟩
  keep := by
    rintro i h h' ⟨hz, hTI, ⟨x, y, hTO⟩, h1, h2⟩ k
    exact ⟨k z (by simp) _ hz, k TI (by simp) _ hTI, ⟨x, y, k TO (by simp) _ hTO⟩, h1.at fun o q => k i1 (by simp) o q, h2.at fun o q => k i2 (by simp) o q⟩
  item := by
    intro X hP hw hK hc i pins s σ H E I hf st hg
    subst hP hw hK
    obtain ⟨hz, hTI, ⟨x0, y0, hTO⟩, h1, h2⟩ := st
    obtain ⟨xs, ys, x, y, hqx, hqy, hx, hy⟩ := hg
    obtain ⟨its, rv, p, _⟩ := I.list hqx
    obtain ⟨its2, rv2, p2, _⟩ := I.tuple hqy
    obtain ⟨u, hu, ru⟩ := rv.get hx
    obtain ⟨u2, hu2, ru2⟩ := rv2.get hy
    have hzl : z < s.heap.objs.size := Heap.lt_size hz
    have hl1 : i < its.toArray.size := by have := (List.getElem?_eq_some_iff.mp hu).1; simpa using this
    have hl2 : i < its2.toArray.size := by have := (List.getElem?_eq_some_iff.mp hu2).1; simpa using this
    refine wpAny_pyNext_zipD2_item (sepM D) (Draws.list (A := X.A.in1) (I.ok.hd hc) i1 a D.l1i1 its.toArray) (Draws.tuple (A := X.A.in1) (I.ok.hd hc) i2 b D.l2i2 its2.toArray) hz hTI hTO ⟨h1, p.isList⟩ ⟨h2, p2⟩ hl1 hl2 ?_
    intro v1 v2 h' tk hv1 hv2 z' TO' st1 st2 hT hsz hk
    have e1 : v1 = u := by
      have h3 : its.toArray[i]? = some u := by simpa using hu
      rw [show its.toArray[i]? = some v1 from hv1] at h3
      exact Option.some.inj h3
    have e2 : v2 = u2 := by
      have h3 : its2.toArray[i]? = some u2 := by simpa using hu2
      rw [show its2.toArray[i]? = some v2 from hv2] at h3
      exact Option.some.inj h3
    subst e1 e2
    refine ⟨_, rfl, wpAny_letOwnedTupleGo_zip (s := { s with heap := h', toks := tk }) z' fun h'' z'' sb => ?_⟩
    have hT2 : h''.get? s.heap.objs.size = some { cls := .type "tuple", data := .seq #[v1, v2] } := (sb.2 _ (Nat.ne_of_gt hzl)).trans hT
    have new : ObjOk X.prog X.w (upd H s.heap.objs.size (.tup [x, y])) h'' s.heap.objs.size (.tup [x, y]) :=
      ⟨by show 2 ≤ sizeLine; decide, [v1, v2], .cons ru (.cons ru2 .nil), ⟨_, hT2, rfl, _, rfl⟩⟩
    have kk : ∀ c o, c ∉ [z, TI, TO, i1, i2] → s.heap.get? c = some o → h''.get? c = some o := by
      intro c o hb q
      simp only [List.mem_cons, List.not_mem_nil, or_false, not_or] at hb
      exact (sb.2 c hb.1).trans (hk c o hb.1 hb.2.2.1 hb.2.2.2.1 hb.2.2.2.2 q)
    have I1 : Inv X pins σ (upd H s.heap.objs.size (.tup [x, y])) { s with heap := h'', toks := tk } :=
      I.turnedNew (t' := tk) (ch := [z, TI, TO, i1, i2]) kk hf (Nat.le_refl _) new
    refine ⟨.ref s.heap.objs.size, _, I1, rfl, ⟨_, x, y, rfl, I.hok.fresh (Nat.le_refl _), rfl, fun l hl => by rw [I.list_inj hl hqx]; exact hx, fun l hl => by rw [I.tuple_inj hl hqy]; exact hy⟩, ⟨z'', ?_, ⟨v1, v2, ?_⟩, ?_, ?_⟩, ?_⟩
    · exact (sb.2 _ D.TIz).trans (hk _ _ D.TIz D.TITO D.TIi1 D.TIi2 hTI)
    · exact (sb.2 _ D.TOz).trans TO'
    · exact st1.1.at fun o q => (sb.2 _ D.i1z).trans q
    · exact st2.1.at fun o q => (sb.2 _ D.i2z).trans q
    · intro c hcm
      have hlt : c < s.heap.objs.size := by
        simp only [List.mem_cons, List.not_mem_nil, or_false] at hcm
        rcases hcm with rfl | rfl | rfl | rfl | rfl
        · exact hzl
        · exact Heap.lt_size hTI
        · exact Heap.lt_size hTO
        · obtain ⟨_, e1, _⟩ := h1; exact Heap.lt_size e1
        · obtain ⟨_, e2, _⟩ := h2; exact Heap.lt_size e2
      rw [upd_ne (Nat.ne_of_lt hlt)]
      exact (hf c hcm).1
  done := by
    intro X hP hw hK hc i pins s σ H E I hf st hg
    subst hP hw hK
    obtain ⟨hz, hTI, ⟨x0, y0, hTO⟩, h1, h2⟩ := st
    obtain ⟨xs, ys, hqx, hqy, hend⟩ := hg
    obtain ⟨its, rv, p, _⟩ := I.list hqx
    obtain ⟨its2, rv2, p2, _⟩ := I.tuple hqy
    have l1 := rv.length
    have l2 := rv2.length
    refine wpAny_pyNext_zipD2_end (i := i) (sepM D) (Draws.list (A := X.A.in1) (I.ok.hd hc) i1 a D.l1i1 its.toArray) (Draws.tuple (A := X.A.in1) (I.ok.hd hc) i2 b D.l2i2 its2.toArray) hz hTI hTO ⟨h1, p.isList⟩ ⟨h2, p2⟩ (by simp; omega) (by simp; omega) (by simp; omega) ?_
    intro h' tk hk
    refine ⟨rfl, I.turnedL (t' := tk) (ch := [z, TI, TO, i1, i2]) ?_ hf⟩
    intro c o hb q
    simp only [List.mem_cons, List.not_mem_nil, or_false, not_or] at hb
    exact hk c o hb.1 hb.2.2.1 hb.2.2.2.1 hb.2.2.2.2 q
  self := fun A i s Q E st h => wpAny_pyIter_zip st.1 h
def iZipM (K : PySem.W.Frag) (ta : TA) : TI := fun σ H R => ta σ H fun vs H1 => ∃ a b xs ys, vs = [.ref a, .ref b] ∧ SqL K H1 a xs ∧ SqT K H1 b ys ∧ R (ItzM K a b) H1
theorem pi_zipM {X : Cx} {e e2 : Expr} {ta : TA} {p pos tpos : Pos} {elts : List Expr} {kk : Nat} (hg : Gl X "zip") (hm : X.mg "zip" = none) (ha : PA X [e, e2] ta)
    (hs : starEach [e, e2] X.env = (false, eval e X.env) :: starEach [e2] X.env := by rfl) (hpl : (backTo pos (starEach [e2] X.env)).any (·.1) = false := by rfl) :
    PI X (.Tuple elts kk tpos) (.Call (.Name "zip" p) [e, e2] [] pos) (iZipM X.K ta) := by
  constructor
  intro pins s σ H R I h
  refine Call_ (ld_blt I hg hm PyProof.Rows.boot_zip (PyProof.Rows.callWith_type1 (thn (ha.run pos pins s σ H _ I h) ?_) hs hpl))
  rintro us s1 ⟨vs, H1, I1, r1, a, b, xs, ys, rfl, hqx, hqy, q⟩
  obtain ⟨u, v, rfl, rfl, rfl⟩ := vals2 r1
  obtain ⟨its, rv, p1, _⟩ := I1.list hqx
  obtain ⟨its2, rv2, p2, _⟩ := I1.tuple hqy
  refine call_zipM p1.isList (show s1.heap.IsTuple b its2.toArray from p2) fun h' hz hTI hTO h1 h2 hk => wpAny_pyIter_zip hz ?_
  have I2 : Inv X pins σ H1 { s1 with heap := h' } := I1.kept (t' := s1.toks) hk
  refine ⟨s1.heap.objs.size + 4, [s1.heap.objs.size + 4, s1.heap.objs.size + 2, s1.heap.objs.size + 3, s1.heap.objs.size, s1.heap.objs.size + 1], _, _, H1, rfl, I2,
    turn_zipM (PySem.W.ktu_apart s1.heap.objs.size a b p1.lt (tupLt p2)), ⟨hz, hTI, ⟨_, _, hTO⟩, h1, h2⟩, ?_, q⟩
  intro c hcm
  have hle : s1.heap.objs.size ≤ c := by
    simp only [List.mem_cons, List.not_mem_nil, or_false] at hcm
    rcases hcm with rfl | rfl | rfl | rfl | rfl <;> omega
  exact I1.fpOk hle (I1.hok.fresh hle)
theorem walk_zipM {K : PySem.W.Frag} {a b : Addr} {xs ys : List V} {n : Nat} (hn : n = min xs.length ys.length) :
    Walk (ItzM K a b) n (fun H => SqL K H a xs ∧ SqT K H b ys) (YPair (fun i => xs[i]?) (fun i => ys[i]?)) := by
  subst hn
  constructor
  · rintro i H hi ⟨q1, q2⟩
    have h1 : i < xs.length := by omega
    have h2 : i < ys.length := by omega
    exact ⟨xs, ys, xs[i], ys[i], q1, q2, by simp [h1], by simp [h2]⟩
  · rintro H ⟨q1, q2⟩
    exact ⟨xs, ys, q1, q2, rfl⟩
  · rintro i H v H' _ ⟨q1, q2⟩ ⟨T, x, z, h1, h2, h3, h4, h5⟩
    exact ⟨T, x, z, h1, h2, h3, h4 xs q1, h5 ys q2⟩
end Pv
/-! t[::-1] of a tuple -/
namespace HT
open PySem PyProof.Rows
section
variable {prog : Program} {w : World} {A : Around} {E : Value → Shared → Prop} {s : Shared}
end
end HT
namespace Pv
open PySem PySem.Spec PyProof.Rows L2
def tRevT (K : PySem.W.Frag) (te : TE) : TE := fun σ H Q => te σ H fun x H1 => ∃ (a : Addr) (xs : List V), x = .ref a ∧ SqT K H1 a xs ∧ ∀ p, H1 p = none → Q (.ref p) (upd H1 p (.tup xs.reverse))
section
variable {X : Cx}
/-! list == [], tuple != () whatever the items are -/
def rEqNil (K : PySem.W.Frag) : R2 := fun x y H Q => ∃ (a b : Addr) (xs : List V), x = .ref a ∧ y = .ref b ∧ SqL K H a xs ∧ SqL K H b [] ∧ Q (.bl xs.isEmpty) H
def rNeNilT (K : PySem.W.Frag) : R2 := fun x y H Q => ∃ (a b : Addr) (xs : List V), x = .ref a ∧ y = .ref b ∧ SqT K H a xs ∧ SqT K H b [] ∧ Q (.bl (!xs.isEmpty)) H
theorem op_neNilT (hu : X.A.units < cLine) : OpR X (compareOp .NotEq) (rNeNilT X.K) := by
  intro pins s σ H x y v u Q I rx ry h
  obtain ⟨a, b, xs, rfl, rfl, ha, hb, q⟩ := h
  cases rx
  cases ry
  obtain ⟨its, r1, p1, z1⟩ := I.tuple ha
  obtain ⟨its2, r2, p2, z2⟩ := I.tuple hb
  cases r2
  have hl := r1.length
  have key := SeqAt.RcNeAt.tuples (A := X.A) (e := fun _ => true) (show s.heap.IsTuple a its.toArray from p1) (show s.heap.IsTuple b ([] : List Value).toArray from p2) hu (fun j _ h2 => absurd h2 (Nat.not_lt_zero _)) X.prog X.w
  have e : (!((List.range (min its.toArray.size ([] : List Value).toArray.size)).all (fun _ => true) && its.toArray.size == ([] : List Value).toArray.size)) = !xs.isEmpty := by
    rw [List.size_toArray, ← hl]
    cases xs <;> simp
  rw [e] at key
  exact key _ _ ⟨.bl _, H, I, rfl, q⟩
end
end Pv
namespace Pv
open PySem PySem.Spec PyProof.Rows L2
theorem samePut {H H1 : Hp} {D : Addr} {o : HO} (s : Same H H1) (nD : H D = none) : Same H (upd H1 D o) := fun b z e => by rw [upd_ne (ne_of_none e nD)]; exact s b z e
theorem ty_sq {K : PySem.W.Frag} {H : Hp} {a : Addr} {xs : List V} (h : SqT K H a xs) : TyX K H (.ref a) (.type "tuple") := by
  rcases h with (h | ⟨o, h⟩) | ⟨o, its, n, h, hc, _⟩
  · exact .base (.tup h)
  · exact .fTuple h
  · exact .kTuple h hc
theorem small {n : Nat} (h : n ≤ 1000000) : n < sizeLine := Nat.lt_of_le_of_lt h (by decide)
def addAt (ls : List Int) (p x : Int) : List Int := ls.set p.toNat (ls.getD p.toNat 0 + x)
theorem addAt_len (ls : List Int) (p x : Int) : (addAt ls p x).length = ls.length := by simp [addAt]
theorem freeOf {H : Hp} {p b : Addr} {o : HO} (h : upd H p o b = none) : H b = none := by
  by_cases e : b = p
  · subst e; rw [upd_same] at h; cases h
  · rw [upd_ne e] at h; exact h
theorem ixN_nat {n j : Nat} (h : j < n) : ixN n (j : Int) = some j := by
  unfold ixN
  rw [if_pos (by omega), if_pos (by omega)]
  simp
theorem zip_take {α β : Type} : ∀ (n : Nat) (a : List α) (b : List β), (a.take n).zip (b.take n) = (a.zip b).take n
  | 0, _, _ => by simp
  | _ + 1, [], _ => by simp
  | _ + 1, _ :: _, [] => by simp
  | n + 1, x :: a, y :: b => by simp [zip_take n a b]
def zeros (n : Nat) : List Int := List.replicate n 0
theorem zeros_V (n : Nat) : (List.replicate n [V.int 0]).flatten = (zeros n).map V.int := by
  unfold zeros
  induction n with
  | zero => rfl
  | succ n ih => rw [List.replicate_succ, List.flatten_cons, ih]; rfl
theorem zip_snoc {α β : Type} {a : List α} {b : List β} {i : Nat} {x : α} {y : β} (hx : a[i]? = some x) (hy : b[i]? = some y) : (a.take (i + 1)).zip (b.take (i + 1)) = (a.take i).zip (b.take i) ++ [(x, y)] := by
  rw [zip_take, zip_take, List.take_add_one]
  have : (a.zip b)[i]? = some (x, y) := by
    rw [List.getElem?_zip_eq_some]; exact ⟨hx, hy⟩
  rw [this]; rfl
theorem take_snoc {α : Type} {l : List α} {i : Nat} {x : α} (h : l[i]? = some x) : l.take (i + 1) = l.take i ++ [x] := by rw [List.take_add_one, h]; rfl
theorem cut_to (xs : List V) (n : Nat) : cutV xs none (some (n : Int)) = xs.take n := by
  unfold cutV
  rw [HT.sIx_none, HT.sIx_nat, List.drop_zero, Nat.sub_zero]
  by_cases h : n ≤ xs.length
  · rw [Nat.min_eq_left h]
  · rw [Nat.min_eq_right (by omega), List.take_length, List.take_of_length_le (by omega)]
def absI (i : Int) : Int := if i < 0 then -i else i
def restI (c : Int) : Int := c * (if decide ((10 : Int) ^ (18 : Int).toNat ≤ c) = true then 1 else 0)
structure InsOk (cs : List Int) (gs : List Gp) : Prop where
  c1 : 1 ≤ cs.length
  c6 : cs.length ≤ 6
  cb : ∀ c ∈ cs, 1 ≤ c ∧ c ≤ 10 ^ 12
  g1 : 1 ≤ gs.length
  g10 : gs.length ≤ 10
  gp : ∀ g ∈ gs, g.1.length ≤ 6 ∧ (∀ p ∈ g.1, 0 ≤ p ∧ p < (cs.length : Int)) ∧ 1 ≤ g.2 ∧ g.2 ≤ 10 ^ 12
theorem Ext.nil {st c r p : Addr} {t : Nat} {H H1 : Hp} (x : Ext st r H H1) (d : DS H1 st c r t) (np : H1 p = none) : H p = none := by
  have o := d.off np
  cases e : H p with
  | none => rfl
  | some z => rw [x _ _ e o.1 o.2.2] at np; cases np
def upTo (n : Nat) : List Int := (List.range n).map fun (i : Nat) => (i : Int)
theorem rgV_upTo (n : Nat) : rgV 0 (n : Int) = (upTo n).map V.int := by
  unfold rgV upTo
  rw [List.map_map]
  simp
theorem upTo_len (n : Nat) : (upTo n).length = n := by simp [upTo]
theorem upTo_mem {n : Nat} {x : Int} (h : x ∈ upTo n) : 0 ≤ x ∧ x < n := by
  unfold upTo at h
  obtain ⟨i, hi, rfl⟩ := List.mem_map.mp h
  have := List.mem_range.mp hi
  omega
theorem erase_map {α β : Type} (f : α → β) : ∀ (l : List α) (k : Nat), (l.map f).eraseIdx k = (l.eraseIdx k).map f
  | [], _ => rfl
  | _ :: _, 0 => rfl
  | x :: l, k + 1 => by simp [erase_map f l k]
theorem hu70 {k : Nat} {A : Around} (hr : Room k A) : A.units + 70 < cLine := by have := hr.un; omega
theorem ty_sqL {K : PySem.W.Frag} {H : Hp} {a : Addr} {xs : List V} (h : SqL K H a xs) : TyX K H (.ref a) (.type "list") := by
  rcases h with (h | ⟨o, h⟩) | ⟨o, its, n, h, hc, _⟩
  · exact .base (.lst h)
  · exact .base (.frz h)
  · exact .kList h hc
theorem FnOk.none {P : Program} {w : World} {K : PySem.W.Frag} {mg : Str → Option Value} {base : Heap} {k : Nat} {f : Addr} {fd : FuncData} {ps : List Str} : FnOk P w K mg base CX0 k f fd ps (fun _ _ _ _ => False) :=
  ⟨fun _ _ _ _ h => h.elim, fun _ _ _ _ _ _ _ _ _ _ _ _ _ h => h.elim⟩
end Pv
namespace Pv
open PySem PySem.Spec PyProof.Rows L2
/-! a comprehension whose elements only make new objects -/
def LcP {α : Type} (H1 : Hp) (D : Addr) (zs : List α) (F : α → Option V) (i : Nat) (H : Hp) : Prop := Same H1 H ∧ H D = some (.lst ((zs.take i).filterMap F))
section
variable {α : Type} {H1 H H' : Hp} {D : Addr} {zs : List α} {F : α → Option V} {i : Nat} {x : α} {y : V}
theorem LcP.start (nD : H1 D = none) : LcP H1 D zs F 0 (upd H1 D (.lst [])) := ⟨sameNew nD, by rw [upd_same]; rfl⟩
theorem LcP.yes (h : LcP H1 D zs F i H) (nD : H1 D = none) (s : Same H H') (hx : zs[i]? = some x) (hF : F x = some y) (hi : i ≤ 1000000) : ∃ acc, H' D = some (.lst acc) ∧ acc.length < sizeLine ∧ LcP H1 D zs F (i + 1) (upd H' D (.lst (acc ++ [y]))) := by
  refine ⟨_, s _ _ h.2, ?_, samePut (h.1.trans s) nD, ?_⟩
  · have h1 := List.length_filterMap_le F (zs.take i)
    have h2 := List.length_take_le i zs
    exact small (by omega)
  · rw [upd_same, take_snoc hx, List.filterMap_append]
    simp [hF]
theorem LcP.no (h : LcP H1 D zs F i H) (s : Same H H') (hx : zs[i]? = some x) (hF : F x = none) : LcP H1 D zs F (i + 1) H' := by
  refine ⟨h.1.trans s, ?_⟩
  rw [s _ _ h.2, take_snoc hx, List.filterMap_append]
  simp [hF]
theorem LcP.done (h : LcP H1 D zs F i H) (hi : zs.length ≤ i) : H D = some (.lst (zs.filterMap F)) := by have := h.2; rwa [List.take_of_length_le hi] at this
end
theorem fm_map {α : Type} (f : α → V) (zs : List α) : zs.filterMap (fun x => some (f x)) = zs.map f := by
  induction zs with
  | nil => rfl
  | cons z zs ih => simp
theorem fm_filter {α : Type} (p : α → Bool) (f : α → V) (zs : List α) : zs.filterMap (fun x => if p x = true then some (f x) else none) = (zs.filter p).map f := by
  induction zs with
  | nil => rfl
  | cons z zs ih => by_cases h : p z = true <;> simp [h, ih]
def Rl {β : Type} (R : V → β → Prop) (vs : List V) (rs : List β) : Prop := vs.length = rs.length ∧ ∀ (j : Nat) (v : V) (r : β), vs[j]? = some v → rs[j]? = some r → R v r
section
variable {β : Type} {R R' : V → β → Prop} {vs : List V} {rs : List β}
theorem Rl.nil : Rl R [] [] := ⟨rfl, fun j v r h => by simp at h⟩
theorem Rl.mono (h : Rl R vs rs) (f : ∀ v r, R v r → R' v r) : Rl R' vs rs := ⟨h.1, fun j v r h1 h2 => f _ _ (h.2 j v r h1 h2)⟩
theorem Rl.snoc {v : V} {r : β} (h : Rl R vs rs) (hv : R v r) : Rl R (vs ++ [v]) (rs ++ [r]) := by
  refine ⟨by simp [h.1], fun j v' r' h1 h2 => ?_⟩
  by_cases hj : j < vs.length
  · rw [List.getElem?_append_left hj] at h1
    rw [List.getElem?_append_left (by rw [← h.1]; exact hj)] at h2
    exact h.2 j v' r' h1 h2
  · rw [List.getElem?_append_right (by omega)] at h1
    rw [List.getElem?_append_right (by rw [← h.1]; omega)] at h2
    have e : j - vs.length = 0 := by have := (List.getElem?_eq_some_iff.mp h1).1; simp at this; omega
    rw [e] at h1
    rw [← h.1, e] at h2
    simp at h1 h2
    rw [← h1, ← h2]; exact hv
theorem Rl.at {j : Nat} {v : V} (h : Rl R vs rs) (hv : vs[j]? = some v) : ∃ r, rs[j]? = some r ∧ R v r := by
  have hj : j < rs.length := by rw [← h.1]; exact (List.getElem?_eq_some_iff.mp hv).1
  exact ⟨rs[j], List.getElem?_eq_getElem hj, h.2 j v _ hv (List.getElem?_eq_getElem hj)⟩
end
theorem sqS {K : PySem.W.Frag} {H H' : Hp} {a : Addr} {xs : List V} (s : Same H H') (h : SqT K H a xs) : SqT K H' a xs := (TupK.of s).sq h
theorem atS {xs : List Int} {j : Nat} (h : j < xs.length) : (xs.map V.int)[j]? = some (.int xs[j]) := by rw [List.getElem?_map, List.getElem?_eq_getElem h]; rfl
section
variable {X : Cx}
def rEqNilT (K : PySem.W.Frag) : R2 := fun x y H Q => ∃ (a b : Addr) (xs : List V), x = .ref a ∧ y = .ref b ∧ SqT K H a xs ∧ SqT K H b [] ∧ Q (.bl xs.isEmpty) H
theorem op_eqNilT (hu : X.A.units < cLine) : OpR X (compareOp .Eq) (rEqNilT X.K) := by
  intro pins s σ H x y v u Q I rx ry h
  obtain ⟨a, b, xs, rfl, rfl, ha, hb, q⟩ := h
  cases rx
  cases ry
  obtain ⟨its, r1, p1, z1⟩ := I.tuple ha
  obtain ⟨its2, r2, p2, z2⟩ := I.tuple hb
  cases r2
  have hl := r1.length
  have key := SeqAt.RcAt.tuples (A := X.A) (e := fun _ => true) (show s.heap.IsTuple a its.toArray from p1) (show s.heap.IsTuple b ([] : List Value).toArray from p2) hu (fun j _ h2 => absurd h2 (Nat.not_lt_zero _)) X.prog X.w
  have e : ((List.range (min its.toArray.size ([] : List Value).toArray.size)).all (fun _ => true) && its.toArray.size == ([] : List Value).toArray.size) = xs.isEmpty := by
    rw [List.size_toArray, ← hl]
    cases xs <;> simp
  rw [e] at key
  exact key _ _ ⟨.bl _, H, I, rfl, q⟩
end
end Pv
namespace Pv
open PySem PySem.Spec PyProof.Rows L2
/-! repr of any such value -/
theorem call_reprA {X : Cx} (hg : X.A.guards = some []) (hu : X.A.units + 70 < cLine) : CallR X (.builtin "repr")
    (fun xs H Q => ∃ v d st r, xs = [v] ∧ Dq X.K st r H v d ∧ d.showable = true ∧ d.depth ≤ 60 ∧ d.shown.length ≤ sizeLine ∧ Q (.str d.shown) H) := by
  intro pins s σ H xs us Q I rv h
  obtain ⟨v, d, st, r, rfl, hd, h1, h3, h4, q⟩ := h
  by_cases hv : ∃ a, v = .ref a
  · obtain ⟨a, rfl⟩ := hv
    exact call_reprQ hg hu pins s σ H _ us Q I rv ⟨a, d, st, r, rfl, hd, h1, h3, h4, q⟩
  · obtain ⟨u, rfl, ru⟩ := vals1 rv
    cases hd with
    | non => cases ru; exact PySem.P.repr_of_none ⟨.str _, H, I.tok _, ⟨_, rfl⟩, q⟩
    | bl b => cases ru; cases b <;> exact PySem.P.repr_of_bool ⟨.str _, H, I.tok _, ⟨_, rfl⟩, q⟩
    | int i =>
      obtain ⟨t, rfl⟩ := ru
      exact PySem.P.repr_of_int (by simpa [PyData.showable] using h1) ⟨.str _, H, I.tok _, ⟨_, rfl⟩, q⟩
    | str x =>
      obtain ⟨t, rfl⟩ := ru
      exact PySem.P.repr_of_str ⟨.str _, H, I.tok _, ⟨_, rfl⟩, q⟩ h4
    | lst _ => exact absurd ⟨_, rfl⟩ hv
    | tup _ => exact absurd ⟨_, rfl⟩ hv
    | dct _ => exact absurd ⟨_, rfl⟩ hv
/-! written values -/
def tLit (K : PySem.W.Frag) (d : PyData) : TE := fun _ H Q => ∃ st r, (H st ≠ none ∧ H r ≠ none) ∧ ∀ H' v, Same H H' → Dq K st r H' v d → Q v H'
def tLits (K : PySem.W.Frag) (ds : List PyData) : TA := fun _ H Q => ∃ st r, (H st ≠ none ∧ H r ≠ none) ∧ ∀ H' vs, Same H H' → DqAll K st r H' vs ds → Q vs H'
section
variable {X : Cx} {e : Expr} {es : List Expr} {pos p1 p2 : Pos} {d : PyData} {ds : List PyData}
theorem small6 {n : Nat} (h : n ≤ 1000000) : n ≤ sizeLine := Nat.le_of_lt (Nat.lt_of_le_of_lt h (by decide))
end
/-! how large, by looking -/
end Pv
namespace Pv
open PySem PySem.Spec PyProof.Rows L2
section
variable {K : PySem.W.Frag} {H : Hp} {a b : Addr} {xs ys : List V} {Q : VK}
/-! slices and sums of tuples, whichever object comes back -/
theorem cat_eq (ha : SqT K H a xs) (hb : SqT K H b ys) (hz : xs.length + ys.length ≤ sizeLine) (h : ∀ (H' : Hp) (p : Addr), Same H H' → SqT K H' p (xs ++ ys) → Q (.ref p) H') : rCatA K (.ref a) (.ref b) H Q := by
  refine ⟨a, b, xs, ys, rfl, rfl, ha, hb, hz, fun e => ?_, fun _ e => ?_, fun _ _ p np => ?_⟩
  · subst e; exact h H b (Same.refl _) (by simpa using hb)
  · subst e; exact h H a (Same.refl _) (by simpa using ha)
  · exact h _ p (sameNew np) (SqT.of upd_same)
end
/-! the greatest of a tuple of ints -/
def rMaxT (K : PySem.W.Frag) : RC := fun xs H Q => ∃ (a : Addr) (ns : List Int), xs = [.ref a] ∧ SqT K H a (ns.map V.int) ∧ 0 < ns.length ∧ ∀ m, m ∈ ns → (∀ y ∈ ns, y ≤ m) → Q (.int m) H
end Pv
namespace Pv
open PySem PySem.Spec PyProof.Rows L2
section
variable {X : Cx} {e : Expr}
end
section
variable {K : PySem.W.Frag} {H : Hp} {a b : Addr} {xs ys : List V} {Q : VK}
theorem sl_any (hP : SqT K H a xs) (lo hi : Option Int) (h : ∀ (H' : Hp) (b : Addr), Same H H' → SqT K H' b (cutV xs lo hi) → Q (.ref b) H') : rSlA K (.ref a) lo hi H Q := by
  refine ⟨a, _, rfl, hP, fun hw => ?_, fun _ p np => ?_⟩
  · refine h H a (Same.refl _) ?_
    have e : cutV xs lo hi = xs := by
      unfold cutV
      rw [hw.1, hw.2, List.drop_zero, Nat.sub_zero, List.take_length]
    rw [e]; exact hP
  · exact h _ p (sameNew np) (SqT.of upd_same)
theorem cut_ints (xs : List Int) (lo hi : Option Int) : ∃ zs : List Int, cutV (xs.map V.int) lo hi = zs.map V.int ∧ zs.length ≤ xs.length ∧ ∀ z ∈ zs, z ∈ xs := by
  unfold cutV
  generalize HT.sIx (xs.map V.int).length 0 lo = m
  generalize HT.sIx (xs.map V.int).length (xs.map V.int).length hi - m = n
  refine ⟨(xs.drop m).take n, by rw [List.map_take, List.map_drop], ?_, fun z hz => List.mem_of_mem_drop (List.mem_of_mem_take hz)⟩
  rw [List.length_take, List.length_drop]; omega
end
/-! a tuple of ints, of at most L and at most M in size -/
def IT (K : PySem.W.Frag) (H : Hp) (p : Addr) (L M : Nat) : Prop := ∃ xs : List Int, SqT K H p (xs.map V.int) ∧ xs.length ≤ L ∧ ∀ x ∈ xs, x.natAbs ≤ M
section
variable {K : PySem.W.Frag} {H H' : Hp} {a b : Addr} {L L' M M' : Nat} {Q : VK}
theorem IT.tk (h : IT K H a L M) (s : TupK H H') : IT K H' a L M := by obtain ⟨xs, h1, h2⟩ := h; exact ⟨xs, s.sq h1, h2⟩
theorem IT.same (h : IT K H a L M) (s : Same H H') : IT K H' a L M := h.tk (.of s)
theorem IT.mono (h : IT K H a L M) (h1 : L ≤ L') (h2 : M ≤ M') : IT K H a L' M' := by obtain ⟨xs, e, l, m⟩ := h; exact ⟨xs, e, by omega, fun x hx => by have := m x hx; omega⟩
theorem IT.cut (h : IT K H a L M) (lo hi : Option Int) (q : ∀ (H' : Hp) (b : Addr), Same H H' → IT K H' b L M → Q (.ref b) H') : rSlA K (.ref a) lo hi H Q := by
  obtain ⟨xs, e, l, m⟩ := h
  obtain ⟨zs, ez, lz, mz⟩ := cut_ints xs lo hi
  exact sl_any e lo hi fun H' b s hb => q H' b s ⟨zs, by rw [← ez]; exact hb, by omega, fun z hz => m z (mz z hz)⟩
end
/-! a comprehension whose elements are new objects: R tells what they show -/
def LcR {α β : Type} (R : Hp → V → β → Prop) (H1 : Hp) (D : Addr) (zs : List α) (F : α → Option β) (i : Nat) (H : Hp) : Prop := Same H1 H ∧ ∃ vs, H D = some (.lst vs) ∧ Rl (R H) vs ((zs.take i).filterMap F)
section
variable {α β : Type} {R : Hp → V → β → Prop} {H1 H H' : Hp} {D : Addr} {zs : List α} {F : α → Option β} {i : Nat} {x : α} {y : V} {b : β}
theorem LcR.start (nD : H1 D = none) : LcR R H1 D zs F 0 (upd H1 D (.lst [])) := ⟨sameNew nD, [], upd_same, by simpa using Rl.nil⟩
theorem LcR.yes (hR : ∀ H H' v b, TupK H H' → R H v b → R H' v b) (h : LcR R H1 D zs F i H) (nD : H1 D = none) (s : Same H H') (hx : zs[i]? = some x) (hF : F x = some b) (hy : R H' y b) (hi : i ≤ 1000000) : ∃ acc, H' D = some (.lst acc) ∧ acc.length < sizeLine ∧ LcR R H1 D zs F (i + 1) (upd H' D (.lst (acc ++ [y]))) := by
  obtain ⟨s1, vs, e, hv⟩ := h
  have e' := s _ _ e
  refine ⟨vs, e', ?_, samePut (s1.trans s) nD, vs ++ [y], upd_same, ?_⟩
  · have h1 := List.length_filterMap_le F (zs.take i)
    have h2 := List.length_take_le i zs
    rw [hv.1]
    exact small (by omega)
  · have tk : TupK H' (upd H' D (.lst (vs ++ [y]))) := TupK.put e'
    rw [take_snoc hx, List.filterMap_append]
    simp only [List.filterMap_cons, hF, List.filterMap_nil]
    exact Rl.snoc (hv.mono fun v r h => hR _ _ _ _ ((TupK.of s).trans tk) h) (hR _ _ _ _ tk hy)
theorem LcR.no (hR : ∀ H H' v b, TupK H H' → R H v b → R H' v b) (h : LcR R H1 D zs F i H) (s : Same H H') (hx : zs[i]? = some x) (hF : F x = none) : LcR R H1 D zs F (i + 1) H' := by
  obtain ⟨s1, vs, e, hv⟩ := h
  refine ⟨s1.trans s, vs, s _ _ e, ?_⟩
  rw [take_snoc hx, List.filterMap_append]
  simp only [List.filterMap_cons, hF, List.filterMap_nil, List.append_nil]
  exact hv.mono fun v r h => hR _ _ _ _ (.of s) h
theorem LcR.done (h : LcR R H1 D zs F i H) (hi : zs.length ≤ i) : ∃ vs, H D = some (.lst vs) ∧ Rl (R H) vs (zs.filterMap F) := by
  obtain ⟨_, vs, e, hv⟩ := h
  rw [List.take_of_length_le hi] at hv
  exact ⟨vs, e, hv⟩
end
end Pv
namespace Pv
open PySem PySem.Spec PyProof.Rows L2
/-! another drawing state: a list of the great numbers that are left, one number of the whole script, and how often it was mixed -/
structure DV (H : Hp) (st g : Addr) (t : Nat) : Prop where
  ex : ∃ (w : Int) (k : Nat) (gr : List Int), H st = some (.lst [.ref g, .int w, .int k]) ∧ H g = some (.lst (gr.map V.int)) ∧ 0 ≤ w ∧ w < 2305843009213693951 ∧ k ≤ t ∧ gr.length ≤ 63
  n1 : st ≠ g
section
variable {H H1 H2 : Hp} {st g p : Addr} {t : Nat} {o : HO}
theorem DV.tup (d : DV H st g t) (e : Ext st g H H1) : TupK H H1 := by
  obtain ⟨w, k, gr, hs, hg, _⟩ := d.ex
  intro b xs
  refine ⟨fun h => ?_, fun u h => ?_⟩
  · exact e _ _ h (ne_of h hs (by intro z; cases z)) (ne_of h hg (by intro z; cases z))
  · exact e _ _ h (ne_of h hs (by intro z; cases z)) (ne_of h hg (by intro z; cases z))
theorem DV.same (d : DV H st g t) (s : Same H H1) : DV H1 st g t := by
  obtain ⟨w, k, gr, hs, hg, q⟩ := d.ex
  exact ⟨⟨w, k, gr, s _ _ hs, s _ _ hg, q⟩, d.n1⟩
theorem DV.new (d : DV H st g t) (np : H p = none) : DV (upd H p o) st g t := d.same (sameNew np)
theorem DV.put (d : DV H st g t) (h1 : p ≠ st) (h2 : p ≠ g) : DV (upd H p o) st g t := by
  obtain ⟨w, k, gr, hs, hg, q⟩ := d.ex
  exact ⟨⟨w, k, gr, by rw [upd_ne h1.symm]; exact hs, by rw [upd_ne h2.symm]; exact hg, q⟩, d.n1⟩
theorem DV.off (d : DV H st g t) (np : H p = none) : p ≠ st ∧ p ≠ g := by
  obtain ⟨w, k, gr, hs, hg, q⟩ := d.ex
  exact ⟨(ne_of_none hs np).symm, (ne_of_none hg np).symm⟩
theorem DV.nil (d : DV H1 st g t) (x : Ext st g H H1) (np : H1 p = none) : H p = none := by
  obtain ⟨o1, o2⟩ := d.off np
  cases e : H p with
  | none => rfl
  | some o => have := x _ _ e o1 o2; rw [np] at this; cases this
theorem DV.lasts (d : DV H st g t) (x : Ext st g H H1) : Lasts st g H H1 := by
  obtain ⟨w, k, gr, hs, hg, _⟩ := d.ex
  refine ⟨d.tup x, fun a xs e n1 n2 => x _ _ e n1 n2, fun a kvs e => ?_⟩
  exact x _ _ e (ne_of e hs (by intro z; cases z)) (ne_of e hg (by intro z; cases z))
theorem DV.mono (d : DV H st g t) {t' : Nat} (h : t ≤ t') : DV H st g t' := by
  obtain ⟨w, k, gr, hs, hg, h1, h2, h3, h4⟩ := d.ex
  exact ⟨⟨w, k, gr, hs, hg, h1, h2, by omega, h4⟩, d.n1⟩
end
end Pv
namespace Pv
open PySem PySem.Spec PyProof.Rows L2
/-! data whose lists stand at none of the places X -/
mutual
inductive Dw (K : PySem.W.Frag) (X : Addr → Prop) (H : Hp) : V → PyData → Prop
  | non : Dw K X H .non .none
  | bl (b : Bool) : Dw K X H (.bl b) (.bool b)
  | int (i : Int) : Dw K X H (.int i) (.int i)
  | str (x : Str) : Dw K X H (.str x) (.str x)
  | lst {a : Addr} {xs : List V} {ds : List PyData} : H a = some (.lst xs) → ¬ X a → a ≠ sysModules → DwAll K X H xs ds → Dw K X H (.ref a) (.list ds)
  | tup {a : Addr} {xs : List V} {ds : List PyData} : SqT K H a xs → DwAll K X H xs ds → Dw K X H (.ref a) (.tuple ds)
  | dct {a : Addr} {kvs : List (Key × Int)} : H a = some (.dK (kvs.map fun p => (p.1, V.int p.2))) → Dw K X H (.ref a) (.dict (kvs.map fun p => (kD p.1, .int p.2)))
inductive DwAll (K : PySem.W.Frag) (X : Addr → Prop) (H : Hp) : List V → List PyData → Prop
  | nil : DwAll K X H [] []
  | cons {v : V} {vs : List V} {d : PyData} {ds : List PyData} : Dw K X H v d → DwAll K X H vs ds → DwAll K X H (v :: vs) (d :: ds)
end
structure LX (X : Addr → Prop) (H H' : Hp) : Prop where
  tk : TupK H H'
  ls : ∀ a xs, H a = some (.lst xs) → ¬ X a → H' a = some (.lst xs)
  dk : ∀ a kvs, H a = some (.dK kvs) → H' a = some (.dK kvs)
section
variable {K : PySem.W.Frag} {X X' : Addr → Prop} {H H' H2 : Hp} {st g : Addr} {t : Nat}
theorem LX.refl : LX X H H := ⟨.refl _, fun _ _ e _ => e, fun _ _ e => e⟩
theorem LX.of (s : Same H H') : LX X H H' := ⟨.of s, fun a xs e _ => s _ _ e, fun a kvs e => s _ _ e⟩
theorem LX.trans (a : LX X H H') (b : LX X H' H2) : LX X H H2 := ⟨a.tk.trans b.tk, fun p xs e n => b.ls _ _ (a.ls _ _ e n) n, fun p kvs e => b.dk _ _ (a.dk _ _ e)⟩
theorem LX.put {D : Addr} {ys : List V} {o : HO} (e : H D = some (.lst ys)) (h : X D) : LX X H (upd H D o) :=
  ⟨TupK.put e, fun a xs ea n => by rw [upd_ne (show a ≠ D from fun z => n (by rw [z]; exact h))]; exact ea, fun a kvs ea => by rw [upd_ne (ne_of ea e (by intro z; cases z))]; exact ea⟩
mutual
theorem Dw.lx (l : LX X H H') : ∀ {d : PyData} {v : V}, Dw K X H v d → Dw K X H' v d
  | .none, _, h => by cases h; exact .non
  | .bool _, _, h => by cases h; exact .bl _
  | .int _, _, h => by cases h; exact .int _
  | .str _, _, h => by cases h; exact .str _
  | .list _, _, h => by
    cases h with
    | lst e n1 n3 hd => exact .lst (l.ls _ _ e n1) n1 n3 (DwAll.lx l hd)
  | .tuple _, _, h => by
    cases h with
    | tup e hd => exact .tup (l.tk.sq e) (DwAll.lx l hd)
  | .dict _, _, h => by
    cases h with
    | dct e => exact .dct (l.dk _ _ e)
theorem DwAll.lx (l : LX X H H') : ∀ {ds : List PyData} {vs : List V}, DwAll K X H vs ds → DwAll K X H' vs ds
  | [], _, h => by cases h; exact .nil
  | _ :: _, _, h => by
    cases h with
    | cons h1 h2 => exact .cons (Dw.lx l h1) (DwAll.lx l h2)
end
mutual
theorem Dw.weak (l : ∀ a, X' a → X a) : ∀ {d : PyData} {v : V}, Dw K X H v d → Dw K X' H v d
  | .none, _, h => by cases h; exact .non
  | .bool _, _, h => by cases h; exact .bl _
  | .int _, _, h => by cases h; exact .int _
  | .str _, _, h => by cases h; exact .str _
  | .list _, _, h => by
    cases h with
    | lst e n1 n3 hd => exact .lst e (fun z => n1 (l _ z)) n3 (DwAll.weak l hd)
  | .tuple _, _, h => by
    cases h with
    | tup e hd => exact .tup e (DwAll.weak l hd)
  | .dict _, _, h => by
    cases h with
    | dct e => exact .dct e
theorem DwAll.weak (l : ∀ a, X' a → X a) : ∀ {ds : List PyData} {vs : List V}, DwAll K X H vs ds → DwAll K X' H vs ds
  | [], _, h => by cases h; exact .nil
  | _ :: _, _, h => by
    cases h with
    | cons h1 h2 => exact .cons (Dw.weak l h1) (DwAll.weak l h2)
end
mutual
theorem Dw.of_dp : ∀ {d : PyData} {v : V}, tupOnly d = true → Dp K H v d → Dw K X H v d
  | .none, _, _, h => by cases h; exact .non
  | .bool _, _, _, h => by cases h; exact .bl _
  | .int _, _, _, h => by cases h; exact .int _
  | .str _, _, _, h => by cases h; exact .str _
  | .list _, _, t, _ => by simp [tupOnly] at t
  | .tuple _, _, t, h => by
    cases h with
    | tup e hd => exact .tup e (DwAll.of_dp (by simpa [tupOnly] using t) hd)
  | .dict _, _, t, _ => by simp [tupOnly] at t
theorem DwAll.of_dp : ∀ {ds : List PyData} {vs : List V}, tupOnlyAll ds = true → DpAll K H vs ds → DwAll K X H vs ds
  | [], _, _, h => by cases h; exact .nil
  | d :: ds, _, t, h => by
    have t' : tupOnly d = true ∧ tupOnlyAll ds = true := by simpa [tupOnlyAll] using t
    cases h with
    | cons h1 h2 => exact .cons (Dw.of_dp t'.1 h1) (DwAll.of_dp t'.2 h2)
end
theorem DwAll.len : ∀ {vs : List V} {ds : List PyData}, DwAll K X H vs ds → vs.length = ds.length
  | _, _, .nil => rfl
  | _, _, .cons _ t => by simp [DwAll.len t]
theorem DwAll.at : ∀ {vs : List V} {ds : List PyData} {i : Nat} {v : V}, DwAll K X H vs ds → vs[i]? = some v → ∃ d, ds[i]? = some d ∧ Dw K X H v d
  | _, _, _, _, .nil, e => by simp at e
  | _, _, 0, _, .cons h _, e => by simp at e; subst e; exact ⟨_, rfl, h⟩
  | _, _, i + 1, v, .cons _ t, e => by
    obtain ⟨d, h1, h2⟩ := DwAll.at (i := i) t (by simpa using e)
    exact ⟨d, by simpa using h1, h2⟩
theorem DwAll.app : ∀ {vs ws : List V} {ds es : List PyData}, DwAll K X H vs ds → DwAll K X H ws es → DwAll K X H (vs ++ ws) (ds ++ es)
  | _, _, _, _, .nil, h => h
  | _, _, _, _, .cons h t, h' => .cons h (DwAll.app t h')
theorem DwAll.snoc {vs : List V} {ds : List PyData} {v : V} {d : PyData} (h : DwAll K X H vs ds) (h' : Dw K X H v d) : DwAll K X H (vs ++ [v]) (ds ++ [d]) := h.app (.cons h' .nil)
end
/-- all that stands -/
def dom (H : Hp) (a : Addr) : Prop := H a ≠ none
/-! written values -/
def tLw (K : PySem.W.Frag) (d : PyData) : TE := fun _ H Q => ∃ X : Addr → Prop, (∀ a, X a → dom H a) ∧ ∀ H' v, Same H H' → Dw K X H' v d → Q v H'
def tLws (K : PySem.W.Frag) (ds : List PyData) : TA := fun _ H Q => ∃ X : Addr → Prop, (∀ a, X a → dom H a) ∧ ∀ H' vs, Same H H' → DwAll K X H' vs ds → Q vs H'
section
variable {X : Cx} {e : Expr} {es : List Expr} {pos p1 p2 : Pos} {d : PyData} {ds : List PyData}
end
end Pv
namespace Pv
open PySem PySem.Spec PyProof.Rows L2
/-! how large data is -/
mutual
def fit (M : Nat) : PyData → Prop
  | .none => True
  | .bool _ => True
  | .int i => i.natAbs ≤ M
  | .str x => (reprText x).length ≤ 400
  | .list xs => fitAll M xs
  | .tuple xs => fitAll M xs
  | .dict kvs => (PyData.shown (.dict kvs)).length ≤ 40 ∧ PyData.showable (.dict kvs) = true
def fitAll (M : Nat) : List PyData → Prop
  | [] => True
  | x :: xs => fit M x ∧ fitAll M xs
end
mutual
def wt : PyData → Nat
  | .none => 40
  | .bool _ => 40
  | .int _ => 40
  | .str _ => 400
  | .list xs => wtAll xs + 3
  | .tuple xs => wtAll xs + 3
  | .dict _ => 40
def wtAll : List PyData → Nat
  | [] => 0
  | x :: xs => wt x + 2 + wtAll xs
end
theorem int_text {i : Int} {M : Nat} (h : i.natAbs ≤ M) (hM : M < 10 ^ 35) : (PyData.int i).showable = true ∧ (PyData.int i).shown.length ≤ 40 := by
  have h' : i.natAbs < 10 ^ 35 := by omega
  refine ⟨?_, ?_⟩
  · simp only [PyData.showable, decide_eq_true_eq]
    have : i.natAbs.log2 < 200 := by
      by_cases h0 : i.natAbs = 0
      · rw [h0]; decide
      · exact (Nat.log2_lt h0).mpr (Nat.lt_trans h' (by decide))
    omega
  · have e := int_text_length_le10 (k := 35) (by decide) h'
    show (Str.ofString (toString i)).length ≤ 40
    rw [PySem.ofString_length]
    omega
mutual
theorem fit_ok {M : Nat} (hM : M < 10 ^ 35) : ∀ {d : PyData}, fit M d → d.showable = true ∧ d.shown.length ≤ wt d
  | .none, _ => by simp only [PyData.showable, PyData.shown, wt]; decide
  | .bool b, _ => by cases b <;> (simp only [PyData.showable, PyData.shown, wt]; decide)
  | .int i, h => by
    have := int_text (i := i) (M := M) (by simpa only [fit] using h) hM
    simp only [wt]; exact this
  | .str x, h => by simp only [fit] at h; simp only [PyData.showable, PyData.shown, wt]; exact ⟨trivial, h⟩
  | .list xs, h => by
    obtain ⟨h1, h2⟩ := fitAll_ok hM (xs := xs) (by simpa only [fit] using h)
    simp only [PyData.showable, PyData.shown, wt]
    refine ⟨h1, ?_⟩
    have e := listText_len_le (PyData.shownAll xs)
    omega
  | .tuple xs, h => by
    obtain ⟨h1, h2⟩ := fitAll_ok hM (xs := xs) (by simpa only [fit] using h)
    simp only [PyData.showable, PyData.shown, wt]
    refine ⟨h1, ?_⟩
    have e := tupleText_len_le (PyData.shownAll xs)
    omega
  | .dict kvs, h => by simp only [fit] at h; simp only [wt]; exact ⟨h.2, h.1⟩
theorem fitAll_ok {M : Nat} (hM : M < 10 ^ 35) : ∀ {xs : List PyData}, fitAll M xs → PyData.showableAll xs = true ∧ ((PyData.shownAll xs).map (·.length)).sum + 2 * (PyData.shownAll xs).length ≤ wtAll xs
  | [], _ => by simp [PyData.showableAll, PyData.shownAll, wtAll]
  | x :: xs, h => by
    have h' : fit M x ∧ fitAll M xs := by simpa only [fitAll] using h
    obtain ⟨a1, a2⟩ := fit_ok hM h'.1
    obtain ⟨b1, b2⟩ := fitAll_ok hM h'.2
    refine ⟨by simp [PyData.showableAll, a1, b1], ?_⟩
    simp only [PyData.shownAll, List.map_cons, List.sum_cons, List.length_cons, wtAll]
    omega
end
mutual
theorem fit_mono {M M' : Nat} (h : M ≤ M') : ∀ {d : PyData}, fit M d → fit M' d
  | .none, _ => by simp [fit]
  | .bool _, _ => by simp [fit]
  | .int i, q => by simp only [fit] at *; omega
  | .str x, q => by simpa only [fit] using q
  | .list xs, q => by simp only [fit] at *; exact fitAll_mono h q
  | .tuple xs, q => by simp only [fit] at *; exact fitAll_mono h q
  | .dict _, q => by simpa only [fit] using q
theorem fitAll_mono {M M' : Nat} (h : M ≤ M') : ∀ {xs : List PyData}, fitAll M xs → fitAll M' xs
  | [], _ => by simp [fitAll]
  | x :: xs, q => by
    have q' : fit M x ∧ fitAll M xs := by simpa only [fitAll] using q
    simp only [fitAll]
    exact ⟨fit_mono h q'.1, fitAll_mono h q'.2⟩
end
theorem fitAll_iff {M : Nat} : ∀ {xs : List PyData}, fitAll M xs ↔ ∀ x ∈ xs, fit M x
  | [] => by simp [fitAll]
  | x :: xs => by simp [fitAll, fitAll_iff (xs := xs)]
theorem wtAll_app : ∀ (xs ys : List PyData), wtAll (xs ++ ys) = wtAll xs + wtAll ys
  | [], ys => by simp [wtAll]
  | x :: xs, ys => by simp only [List.cons_append, wtAll, wtAll_app xs ys]; omega
theorem depthAll_le {k : Nat} : ∀ {xs : List PyData}, PyData.depthAll xs ≤ k ↔ ∀ x ∈ xs, x.depth ≤ k
  | [] => by simp [PyData.depthAll]
  | x :: xs => by
    have := depthAll_le (k := k) (xs := xs)
    simp only [PyData.depthAll, List.mem_cons, forall_eq_or_imp, ← this]
    omega
structure Fit (M k W : Nat) (d : PyData) : Prop where
  ok : fit M d
  dp : d.depth ≤ k
  wt : wt d ≤ W
theorem Fit.mono {M M' k k' W W' : Nat} {d : PyData} (h : Fit M k W d) (h1 : M ≤ M') (h2 : k ≤ k') (h3 : W ≤ W') : Fit M' k' W' d := ⟨fit_mono h1 h.ok, Nat.le_trans h.dp h2, Nat.le_trans h.wt h3⟩
theorem Fit.at {M k W : Nat} {ds : List PyData} {d : PyData} (h : Fit M k W (.tuple ds)) (hm : d ∈ ds) : Fit M (k - 1) W d ∧ d.depth + 1 ≤ (PyData.tuple ds).depth ∧ 1 ≤ k := by
  have h1 : fitAll M ds := by have := h.ok; simpa only [fit] using this
  have h2 := h.dp
  simp only [PyData.depth] at h2
  have h3 : ∀ x ∈ ds, x.depth ≤ PyData.depthAll ds := depthAll_le.mp (Nat.le_refl _)
  have h4 := h3 d hm
  refine ⟨⟨fitAll_iff.mp h1 d hm, by omega, ?_⟩, by simp only [PyData.depth]; omega, by omega⟩
  obtain ⟨a, b, rfl⟩ := List.append_of_mem hm
  have h5 := h.wt
  simp only [Pv.wt, wtAll_app, wtAll] at h5
  omega
/-- a tuple made of parts -/
theorem Fit.tup {M k W : Nat} {ds : List PyData} (h1 : ∀ d ∈ ds, fit M d ∧ d.depth + 1 ≤ k) (h0 : 1 ≤ k) (h2 : wtAll ds + 3 ≤ W) : Fit M k W (.tuple ds) := by
  refine ⟨by simp only [fit]; exact fitAll_iff.mpr fun d hd => (h1 d hd).1, ?_, by simpa only [Pv.wt] using h2⟩
  simp only [PyData.depth]
  have : PyData.depthAll ds ≤ k - 1 := depthAll_le.mpr fun d hd => by have := (h1 d hd).2; omega
  omega
theorem Fit.lst {M k W : Nat} {ds : List PyData} (h1 : ∀ d ∈ ds, fit M d ∧ d.depth + 1 ≤ k) (h0 : 1 ≤ k) (h2 : wtAll ds + 3 ≤ W) : Fit M k W (.list ds) := by
  refine ⟨by simp only [fit]; exact fitAll_iff.mpr fun d hd => (h1 d hd).1, ?_, by simpa only [Pv.wt] using h2⟩
  simp only [PyData.depth]
  have : PyData.depthAll ds ≤ k - 1 := depthAll_le.mpr fun d hd => by have := (h1 d hd).2; omega
  omega
theorem Fit.parts {M k W : Nat} {ds : List PyData} (h : Fit M k W (.tuple ds)) : (∀ d ∈ ds, fit M d ∧ d.depth + 1 ≤ k) ∧ 1 ≤ k ∧ wtAll ds + 3 ≤ W := by
  have h0 : 1 ≤ k := by have := h.dp; simp only [PyData.depth] at this; omega
  refine ⟨fun d hd => ⟨(h.at hd).1.ok, ?_⟩, h0, by have := h.wt; simpa only [Pv.wt] using this⟩
  have := (h.at hd).1.dp
  omega
theorem Fit.int {M k W : Nat} {i : Int} (h : i.natAbs ≤ M) (hW : 40 ≤ W) : Fit M k W (.int i) := ⟨by simpa only [fit] using h, by simp [PyData.depth], by simpa only [Pv.wt] using hW⟩
/-! the data of instances and assignments -/
theorem fit_dI {M : Nat} {ns : List Int} (h : ∀ i ∈ ns, i.natAbs ≤ M) : Fit M 1 (ns.length * 42 + 3) (dI ns) := by
  have hw : wtAll (ns.map PyData.int) = ns.length * 42 := by
    clear h
    induction ns with
    | nil => rfl
    | cons a ns ih => simp only [List.map_cons, wtAll, wt, ih, List.length_cons]; omega
  refine Fit.tup ?_ (by decide) (by rw [hw]; exact Nat.le_refl _)
  intro d hd
  obtain ⟨i, hi, rfl⟩ := List.mem_map.mp hd
  exact ⟨by simpa only [fit] using h i hi, by simp [PyData.depth]⟩
theorem wtAll_le {W : Nat} : ∀ {ds : List PyData}, (∀ d ∈ ds, wt d ≤ W) → wtAll ds ≤ ds.length * (W + 2)
  | [], _ => by simp [wtAll]
  | d :: ds, h => by
    have h1 := h d (by simp)
    have h2 := wtAll_le (W := W) (ds := ds) (fun x hx => h x (by simp [hx]))
    simp only [wtAll, List.length_cons, Nat.succ_mul]; omega
theorem fit_dInst {M : Nat} {cs : List Int} {gs : List Gp} (hc : cs.length ≤ 10 ∧ ∀ i ∈ cs, i.natAbs ≤ M) (hg : gs.length ≤ 20) (h : ∀ g ∈ gs, g.1.length ≤ 10 ∧ (∀ i ∈ g.1, i.natAbs ≤ M) ∧ g.2.natAbs ≤ M) : Fit M 5 20000 (dInst cs gs) := by
  have f1 := fit_dI hc.2
  have f2 : ∀ g ∈ gs, Fit M 2 600 (dGrp g) := by
    intro g hgm
    have f3 := fit_dI (M := M) (h g hgm).2.1
    have hl := (h g hgm).1
    unfold dGrp
    refine Fit.tup ?_ (by decide) ?_
    · intro d hd
      rcases List.mem_cons.mp hd with rfl | hd
      · exact ⟨f3.ok, by have := f3.dp; omega⟩
      · rcases List.mem_cons.mp hd with rfl | hd
        · exact ⟨by simpa only [fit] using (h g hgm).2.2, by simp [PyData.depth]⟩
        · cases hd
    · have := f3.wt
      simp only [wtAll, Pv.wt]; omega
  have f4 : Fit M 3 13000 (.tuple (gs.map dGrp)) := by
    refine Fit.tup ?_ (by decide) ?_
    · intro d hd
      obtain ⟨g, hgm, rfl⟩ := List.mem_map.mp hd
      exact ⟨(f2 g hgm).ok, by have := (f2 g hgm).dp; omega⟩
    · have := wtAll_le (W := 600) (ds := gs.map dGrp) (by
        intro d hd
        obtain ⟨g, hgm, rfl⟩ := List.mem_map.mp hd
        exact (f2 g hgm).wt)
      rw [List.length_map] at this
      omega
  unfold dInst
  refine Fit.tup ?_ (by decide) ?_
  · intro d hd
    rcases List.mem_cons.mp hd with rfl | hd
    · exact ⟨f1.ok, by have := f1.dp; omega⟩
    · rcases List.mem_cons.mp hd with rfl | hd
      · exact ⟨f4.ok, by have := f4.dp; omega⟩
      · cases hd
  · have h1 := f1.wt
    have h2 := f4.wt
    have := hc.1
    simp only [wtAll]; omega
end Pv
namespace Pv
open PySem PySem.Spec PyProof.Rows L2
theorem seq_with {t u : TS} {D : Ends} {σ : L2.St} {H : Hp} (Pre : L2.St → Hp → Prop) (rest : ∀ σ1 H1, Pre σ1 H1 → u D σ1 H1) (main : (∀ σ1 H1, Pre σ1 H1 → u D σ1 H1) → tSeq t u D σ H) : tSeq t u D σ H := main rest
theorem perm_erase : ∀ (l : List Int) (k : Nat) (h : k < l.length), (l[k] :: l.eraseIdx k).Perm l
  | [], _, h => by simp at h
  | a :: l, 0, _ => by simp
  | a :: l, k + 1, h => by
    have ih := perm_erase l k (by simpa using h)
    simp only [List.getElem_cons_succ, List.eraseIdx_cons_succ]
    exact (List.Perm.swap _ _ _).trans (List.Perm.cons _ ih)
theorem nodup_step {ms l : List Int} {k : Nat} (h : k < l.length) (hn : (ms ++ l).Nodup) : ((ms ++ [l[k]]) ++ l.eraseIdx k).Nodup := by
  rw [List.append_assoc]
  exact (List.Perm.append_left ms (perm_erase l k h)).symm.nodup hn
theorem upTo_nodup (n : Nat) : (upTo n).Nodup := by
  unfold upTo
  show List.Pairwise _ _
  rw [List.pairwise_map]
  exact List.Pairwise.imp (fun h hab => h (Int.ofNat.inj hab)) (List.nodup_range (n := n))
def wholeD (d : PyData) : Bool := isInt d && !isBool d
def withinD (a b : Int) : PyData → Bool
  | .int i => decide (a ≤ i ∧ i ≤ b)
  | _ => false
def tupOfD (a b : Int) : PyData → Bool
  | .tuple ds => decide (a ≤ (ds.length : Int) ∧ (ds.length : Int) ≤ b)
  | _ => false
def intsAll : List PyData → Option (List Int)
  | [] => some []
  | .int i :: r => (intsAll r).map (i :: ·)
  | _ :: _ => none
def intsOf : PyData → Option (List Int)
  | .tuple ds => intsAll ds
  | _ => none
theorem intsAll_ints : ∀ row : List Int, intsAll (row.map PyData.int) = some row
  | [] => rfl
  | i :: r => by simp [intsAll, intsAll_ints r]
def optV (ps : List Int) (k : Nat) : V := match ps[k]? with | some p => .int p | none => .non
def dAdd (ls : List Int) (g : Gp) : List Int := match g.1 with | [] => ls | p :: _ => addAt ls p g.2
def demOf (n : Nat) (gs : List Gp) : List Int := gs.foldl dAdd (zeros n)
theorem dAdd_len (ls : List Int) (g : Gp) : (dAdd ls g).length = ls.length := by
  unfold dAdd; split
  · rfl
  · exact addAt_len ..
theorem demOf_len (n : Nat) (gs : List Gp) : (demOf n gs).length = n := by
  unfold demOf
  suffices h : ∀ ls : List Int, (gs.foldl dAdd ls).length = ls.length by rw [h]; simp [zeros]
  intro ls
  induction gs generalizing ls with
  | nil => rfl
  | cons g gs ih => rw [List.foldl_cons, ih, dAdd_len]
theorem demOf_snoc {n : Nat} {gs : List Gp} {i : Nat} {g : Gp} (h : gs[i]? = some g) : demOf n (gs.take (i + 1)) = dAdd (demOf n (gs.take i)) g := by
  unfold demOf
  rw [take_snoc h, List.foldl_append]; rfl
def mx (j : Int) : Int := if j > 0 then j else 0
def excOf (cs ds : List Int) : List Int := (cs.zip ds).map fun q => mx (q.2 - q.1)
def freOf (cs ds : List Int) : List Int := (cs.zip ds).map fun q => mx (q.1 - q.2)
def sel (f : Int → Bool) (ls : List Int) (n : Nat) : List Int := ((List.range n).filter fun i => f (ls.getD i 0)).map fun (i : Nat) => (i : Int)
theorem sel_succ (f : Int → Bool) (ls : List Int) {n : Nat} {x : Int} (h : ls[n]? = some x) : sel f ls (n + 1) = sel f ls n ++ (if f x then [(n : Int)] else []) := by
  unfold sel
  rw [List.range_succ, List.filter_append, List.map_append]
  have e : ls.getD n 0 = x := by rw [List.getD_eq_getElem?_getD, h]; rfl
  simp only [List.filter_cons, List.filter_nil, e]
  cases f x <;> rfl
theorem sel_len (f : Int → Bool) (ls : List Int) (n : Nat) : (sel f ls n).length ≤ n := by
  unfold sel
  rw [List.length_map]
  exact Nat.le_trans (List.length_filter_le ..) (by simp)
def isFree (ps cl : List Int) (k : Nat) : Bool := !(cl.contains (ps.getD k 0))
def resOf (ps cl : List Int) : Nat := ((List.range' 1 (ps.length - 1)).find? (isFree ps cl)).getD ps.length
theorem inV_ints (x : Int) : ∀ cl : List Int, inV (.int x) (cl.map V.int) = cl.contains x
  | [] => rfl
  | c :: cl => by
    show ((c == x) || inV (.int x) (cl.map V.int)) = _
    rw [inV_ints x cl, List.contains_cons]
    congr 1
    exact Bool.beq_comm
theorem flat_ints (cl : List Int) : (cl.map V.int).all flatV = true := by
  induction cl with
  | nil => rfl
  | cons c cl ih => simpa [flatV] using ih
def rDem (cs : List Int) (gs : List Gp) : List Int := demOf cs.length gs
def rExc (cs : List Int) (gs : List Gp) : List Int := excOf cs (rDem cs gs)
def rFre (cs : List Int) (gs : List Gp) : List Int := freOf cs (rDem cs gs)
def rCla (cs : List Int) (gs : List Gp) : List Int := sel (fun x => decide (x = 0)) (rFre cs gs) cs.length
def rCro (cs : List Int) (gs : List Gp) : List Int := sel (fun x => decide (0 < x)) (rExc cs gs) cs.length
theorem rDem_len (cs : List Int) (gs : List Gp) : (rDem cs gs).length = cs.length := demOf_len ..
theorem rExc_len (cs : List Int) (gs : List Gp) : (rExc cs gs).length = cs.length := by simp [rExc, excOf, rDem_len]
theorem rFre_len (cs : List Int) (gs : List Gp) : (rFre cs gs).length = cs.length := by simp [rFre, freOf, rDem_len]
def oV : Option Int → V
  | some x => .int x
  | none => .non
theorem optV_oV (ps : List Int) (k : Nat) : optV ps k = oV ps[k]? := by unfold optV; cases ps[k]? <;> rfl
def routeOf (cs : List Int) (gs : List Gp) (g : Gp) : Option (Int × Option Int) := match g.1 with
  | [] => none
  | p :: _ => if (rCro cs gs).contains p = true then some (p, g.1[resOf g.1 (rCla cs gs)]?) else none
def RtV (K : PySem.W.Frag) (H : Hp) (v : V) : Option (Int × Option Int) → Prop
  | none => v = .non
  | some r => ∃ T, v = .ref T ∧ SqT K H T [.int r.1, oV r.2]
def RtAll (K : PySem.W.Frag) (H : Hp) (vs : List V) (rs : List (Option (Int × Option Int))) : Prop := vs.length = rs.length ∧ ∀ (j : Nat) (v : V) (r : Option (Int × Option Int)), vs[j]? = some v → rs[j]? = some r → RtV K H v r
theorem RtV.tk {K : PySem.W.Frag} {H H' : Hp} {v : V} {r : Option (Int × Option Int)} (h : RtV K H v r) (s : TupK H H') : RtV K H' v r := by
  cases r with
  | none => exact h
  | some r => obtain ⟨T, e, h⟩ := h; exact ⟨T, e, s.sq h⟩
theorem RtAll.tk {K : PySem.W.Frag} {H H' : Hp} {vs : List V} {rs : List (Option (Int × Option Int))} (h : RtAll K H vs rs) (s : TupK H H') : RtAll K H' vs rs := ⟨h.1, fun j v r h1 h2 => (h.2 j v r h1 h2).tk s⟩
theorem RtAll.snoc {K : PySem.W.Frag} {H : Hp} {vs : List V} {rs : List (Option (Int × Option Int))} {v : V} {r : Option (Int × Option Int)} (h : RtAll K H vs rs) (hv : RtV K H v r) : RtAll K H (vs ++ [v]) (rs ++ [r]) := by
  refine ⟨by simp [h.1], fun j v' r' h1 h2 => ?_⟩
  by_cases hj : j < vs.length
  · rw [List.getElem?_append_left hj] at h1
    rw [List.getElem?_append_left (by rw [← h.1]; exact hj)] at h2
    exact h.2 j v' r' h1 h2
  · rw [List.getElem?_append_right (by omega)] at h1
    rw [List.getElem?_append_right (by rw [← h.1]; omega)] at h2
    have e : j - vs.length = 0 := by have := (List.getElem?_eq_some_iff.mp h1).1; simp at this; omega
    rw [e] at h1
    rw [← h.1, e] at h2
    simp at h1 h2
    rw [← h1, ← h2]; exact hv
theorem inV_opt (ps cl : List Int) : inV (optV ps 0) (cl.map V.int) = match ps with | [] => false | p :: _ => cl.contains p := by
  cases ps with
  | nil =>
    show inV .non (cl.map V.int) = false
    induction cl with
    | nil => rfl
    | cons c cl ih =>
      have e : eqV (V.int c) V.non = false := rfl
      simp only [List.map_cons, inV] at ih ⊢
      simp [e] at ih ⊢
      exact ih
  | cons p ps => exact inV_ints p cl
theorem resOf_le (ps cl : List Int) : resOf ps cl ≤ ps.length := by
  unfold resOf
  cases e : (List.range' 1 (ps.length - 1)).find? (isFree ps cl) with
  | none => simp
  | some x =>
    have := List.mem_of_find?_eq_some e
    rw [List.mem_range'_1] at this
    simp; omega
theorem iteFF {c : Bool} {A B : Prop} (hc : c = false) (h : B) : if c = true then A else B := by rw [if_neg (by rw [hc]; decide)]; exact h
theorem iteTT {c : Bool} {A B : Prop} (hc : c = true) (h : A) : if c = true then A else B := by rw [if_pos hc]; exact h
theorem eqv_intsL (as bs : List Int) : PyData.eqv (.list (as.map PyData.int)) (.list (bs.map PyData.int)) = decide (as = bs) := by
  have key : ∀ (as bs : List Int), PyData.eqvAll (as.map PyData.int) (bs.map PyData.int) = decide (as = bs) := by
    intro as
    induction as with
    | nil => intro bs; cases bs <;> simp [PyData.eqvAll]
    | cons a as ih =>
      intro bs
      cases bs with
      | nil => simp [PyData.eqvAll]
      | cons b bs =>
        simp only [List.map_cons, PyData.eqvAll, PyData.eqv, ih, List.cons.injEq]
        by_cases h1 : a = b <;> by_cases h2 : as = bs <;> simp [h1, h2]
  rw [PyData.eqv]; exact key as bs
def mvStep (st : List Int × List Int) (z : Option (Int × Option Int) × Int) : List Int × List Int := match z.1 with
  | none => st
  | some r => (addAt st.1 r.1 z.2, match r.2 with | some y => addAt st.2 y z.2 | none => st.2)
def mvOf (n : Nat) (zs : List (Option (Int × Option Int) × Int)) : List Int × List Int := zs.foldl mvStep (zeros n, zeros n)
theorem mvOf_snoc (n : Nat) (zs : List (Option (Int × Option Int) × Int)) (z : Option (Int × Option Int) × Int) : mvOf n (zs ++ [z]) = mvStep (mvOf n zs) z := by simp [mvOf, List.foldl_append]
theorem mvOf_len (n : Nat) (zs : List (Option (Int × Option Int) × Int)) : (mvOf n zs).1.length = n ∧ (mvOf n zs).2.length = n := by
  have : ∀ (zs : List (Option (Int × Option Int) × Int)) (s : List Int × List Int), s.1.length = n → s.2.length = n → (zs.foldl mvStep s).1.length = n ∧ (zs.foldl mvStep s).2.length = n := by
    intro zs
    induction zs with
    | nil => intro s h1 h2; exact ⟨h1, h2⟩
    | cons z zs ih =>
      intro s h1 h2
      refine ih _ ?_ ?_
      · unfold mvStep; split
        · exact h1
        · simp only [addAt_len]; exact h1
      · unfold mvStep; split
        · exact h2
        · simp only; split
          · rw [addAt_len]; exact h2
          · exact h2
  exact this zs _ (by simp [zeros]) (by simp [zeros])
def zsOf (cs : List Int) (gs : List Gp) (xs : List Int) : List (Option (Int × Option Int) × Int) := (gs.map (routeOf cs gs)).zip xs
def goodZ (z : Option (Int × Option Int) × Int) : Bool := z.1.isSome || decide (z.2 = 0)
def meetsD (cs : List Int) (gs : List Gp) (xs : List Int) : Bool := (zsOf cs gs xs).all goodZ && decide ((mvOf cs.length (zsOf cs gs xs)).1 = rExc cs gs) && ((mvOf cs.length (zsOf cs gs xs)).2.zip (rFre cs gs)).all (fun z => decide (z.1 ≤ z.2))
theorem route_in {cs : List Int} {gs : List Gp} (ok : InsOk cs gs) {g : Gp} (hg : g ∈ gs) {r : Int × Option Int} (h : routeOf cs gs g = some r) : (0 ≤ r.1 ∧ r.1 < (cs.length : Int)) ∧ ∀ y, r.2 = some y → 0 ≤ y ∧ y < (cs.length : Int) := by
  have hp := (ok.gp g hg).2.1
  unfold routeOf at h
  cases e : g.1 with
  | nil => rw [e] at h; cases h
  | cons p ps =>
    rw [e] at h
    simp only at h
    split at h
    · cases h
      refine ⟨hp p (by rw [e]; simp), fun y hy => hp y ?_⟩
      rw [e]
      exact List.mem_of_getElem? hy
    · cases h
def intAt : PyData → Int
  | .int i => i
  | _ => 0
def tupIt : PyData → List PyData
  | .tuple ds => ds
  | _ => []
def isVecD (cs : List Int) (gs : List Gp) (d : PyData) : Bool := tupOfD (gs.length : Nat) (gs.length : Nat) d && ((gs.zip (tupIt d)).all (fun z => withinD 0 z.1.2 z.2) && meetsD cs gs ((tupIt d).map intAt))
theorem ints_vals {K : PySem.W.Frag} {st r : Addr} {H : Hp} : ∀ {ds : List PyData} {zs : List V}, (∀ d ∈ ds, ∃ x, d = PyData.int x) → DqAll K st r H zs ds → zs = (ds.map intAt).map V.int
  | [], _, _, h => by cases h; rfl
  | d :: ds, _, hi, h => by
    cases h with
    | cons h1 h2 =>
      obtain ⟨x, rfl⟩ := hi d (by simp)
      cases h1
      rw [ints_vals (fun d hd => hi d (by simp [hd])) h2]
      rfl
theorem sel_has (f : Int → Bool) (ls : List Int) {n k : Nat} (hk : k < n) : (sel f ls n).contains (k : Int) = f (ls.getD k 0) := by
  rw [Bool.eq_iff_iff, List.contains_iff_mem]
  simp only [sel, List.mem_map, List.mem_filter, List.mem_range]
  constructor
  · rintro ⟨a, ⟨h, e⟩, h2⟩
    have : a = k := by omega
    subst this; exact e
  · exact fun h => ⟨k, ⟨hk, h⟩, rfl⟩
theorem fre_at {cs ds : List Int} {p : Nat} (h1 : p < cs.length) (h2 : p < ds.length) : (freOf cs ds).getD p 0 = mx (cs[p] - ds[p]) := by
  unfold freOf
  rw [List.getD_eq_getElem?_getD, List.getElem?_map, (List.getElem?_zip_eq_some.mpr ⟨List.getElem?_eq_getElem h1, List.getElem?_eq_getElem h2⟩ : (cs.zip ds)[p]? = some (cs[p], ds[p]))]
  rfl
theorem exc_at {cs ds : List Int} {p : Nat} (h1 : p < cs.length) (h2 : p < ds.length) : (excOf cs ds).getD p 0 = mx (ds[p] - cs[p]) := by
  unfold excOf
  rw [List.getD_eq_getElem?_getD, List.getElem?_map, (List.getElem?_zip_eq_some.mpr ⟨List.getElem?_eq_getElem h1, List.getElem?_eq_getElem h2⟩ : (cs.zip ds)[p]? = some (cs[p], ds[p]))]
  rfl
theorem cla_has {cs : List Int} {gs : List Gp} {p : Nat} (h : p < cs.length) : (rCla cs gs).contains (p : Int) = decide (cs[p] ≤ (rDem cs gs)[p]'(by rw [rDem_len]; exact h)) := by
  unfold rCla
  rw [sel_has _ _ h]
  unfold rFre
  rw [fre_at h (by rw [rDem_len]; exact h)]
  unfold mx
  rw [decide_eq_decide]
  split <;> omega
theorem cro_has {cs : List Int} {gs : List Gp} {p : Nat} (h : p < cs.length) : (rCro cs gs).contains (p : Int) = decide (cs[p] < (rDem cs gs)[p]'(by rw [rDem_len]; exact h)) := by
  unfold rCro
  rw [sel_has _ _ h]
  unfold rExc
  rw [exc_at h (by rw [rDem_len]; exact h)]
  unfold mx
  rw [decide_eq_decide]
  split <;> omega
theorem zip_turn {α β γ : Type} (f : α × β → γ) : ∀ (as : List α) (bs : List β), (as.zip bs).map f = (bs.zip as).map fun z => f (z.2, z.1)
  | [], bs => by simp
  | a :: as, [] => by simp
  | a :: as, b :: bs => by simp [zip_turn f as bs]
theorem exc_zip (ds cs : List Int) : (ds.zip cs).map (fun z => V.int (mx (z.1 - z.2))) = (excOf cs ds).map V.int := by
  rw [zip_turn]; unfold excOf; rw [List.map_map]; rfl
theorem fre_zip (ds cs : List Int) : (ds.zip cs).map (fun z => V.int (mx (z.2 - z.1))) = (freOf cs ds).map V.int := by
  rw [zip_turn]; unfold freOf; rw [List.map_map]; rfl
theorem res_head {ps cl : List Int} {F : Nat → Option V} (hl : 1 ≤ ps.length) (hF : ∀ k, 1 ≤ k → k < ps.length → F k = if isFree ps cl k = true then some (.int (k : Nat)) else none) (hL : F ps.length = some (.int (ps.length : Nat))) :
    ((List.range' 1 ps.length).filterMap F)[0]? = some (.int (resOf ps cl : Nat)) := by
  obtain ⟨m, hm⟩ : ∃ m, ps.length = m + 1 := ⟨ps.length - 1, by omega⟩
  have e : List.range' 1 ps.length = List.range' 1 m ++ [ps.length] := by rw [hm, List.range'_1_concat, Nat.add_comm 1 m]
  have key : ∀ l : List Nat, (∀ k ∈ l, 1 ≤ k ∧ k < ps.length) → (l.filterMap F ++ [V.int (ps.length : Nat)])[0]? = some (.int (((l.find? (isFree ps cl)).getD ps.length : Nat) : Int)) := by
    intro l
    induction l with
    | nil => intro _; rfl
    | cons k l ih =>
      intro h
      have hk := h k (by simp)
      have := hF k hk.1 hk.2
      by_cases hf : isFree ps cl k = true
      · rw [if_pos hf] at this
        rw [List.filterMap_cons_some this, List.find?_cons_of_pos hf]; rfl
      · rw [if_neg hf] at this
        rw [List.filterMap_cons_none this, List.find?_cons_of_neg hf]
        exact ih fun k hk => h k (by simp [hk])
  rw [e, List.filterMap_append, show List.filterMap F [ps.length] = [V.int (ps.length : Nat)] by simp [hL], key _ (fun k hk => by rw [List.mem_range'_1] at hk; omega)]
  unfold resOf
  rw [hm, Nat.add_sub_cancel]
abbrev Rw := Nat × Int × Option Int × Int
def rowAt (cs : List Int) (gs : List Gp) (j : Nat) (g : Gp) : Option Rw := (routeOf cs gs g).map fun r => (j, r.1, r.2, g.2)
def rowsTo (cs : List Int) (gs : List Gp) (n : Nat) : List Rw := (List.range n).filterMap fun j => gs[j]?.bind (rowAt cs gs j)
theorem rowsTo_succ {cs : List Int} {gs : List Gp} {j : Nat} {g : Gp} (h : gs[j]? = some g) : rowsTo cs gs (j + 1) = rowsTo cs gs j ++ (rowAt cs gs j g).toList := by
  unfold rowsTo
  rw [List.range_succ, List.filterMap_append]
  congr 1
  simp only [List.filterMap_cons, List.filterMap_nil, h, Option.bind_some]
  cases rowAt cs gs j g <;> rfl
theorem rowsTo_len (cs : List Int) (gs : List Gp) (n : Nat) : (rowsTo cs gs n).length ≤ n := by
  unfold rowsTo
  exact Nat.le_trans (List.length_filterMap_le _ _) (by simp)
def RwV (K : PySem.W.Frag) (H : Hp) (v : V) (r : Rw) : Prop := ∃ T, v = .ref T ∧ SqT K H T [.int (r.1 : Nat), .int r.2.1, oV r.2.2.1, .int r.2.2.2]
theorem RwV.tk {K : PySem.W.Frag} {H H' : Hp} {v : V} {r : Rw} (h : RwV K H v r) (s : TupK H H') : RwV K H' v r := by
  obtain ⟨T, e, h⟩ := h; exact ⟨T, e, s.sq h⟩
theorem RwV.same {K : PySem.W.Frag} {H H' : Hp} {v : V} {r : Rw} (h : RwV K H v r) (s : Same H H') : RwV K H' v r := h.tk (.of s)
def subL (a b : List Int) : List Int := List.zipWith (fun x y => x - y) a b
theorem subL_len {a b : List Int} (h : a.length = b.length) : (subL a b).length = a.length := by simp [subL, h]
theorem sub_add {a b : List Int} {p : Nat} {x : Int} (hab : a.length = b.length) (hp : p < (subL a b).length) : subL a (addAt b (p : Int) x) = (subL a b).set p ((subL a b)[p] - x) := by
  have hpb : p < b.length := by rw [subL_len hab] at hp; omega
  unfold addAt
  rw [Int.toNat_natCast]
  apply List.ext_getElem
  · simp [subL, hab]
  · intro n h1 h2
    simp only [subL, List.getElem_zipWith, List.getElem_set]
    by_cases h : p = n
    · subst h; simp [hpb]; omega
    · simp [h]
theorem sub_zero (a : List Int) : subL a (zeros a.length) = a := by
  induction a with
  | nil => rfl
  | cons x a ih => simp [subL, zeros, List.replicate_succ] at ih ⊢; exact ih
theorem sub_eq : ∀ {a b : List Int}, a.length = b.length → ((subL a b).filter (fun x => !decide (x = 0))).isEmpty = decide (b = a)
  | [], [], _ => by simp [subL]
  | [], _ :: _, h => by simp at h
  | _ :: _, [], h => by simp at h
  | x :: a, y :: b, h => by
    have ih := sub_eq (a := a) (b := b) (by simpa using h)
    unfold subL at ih ⊢
    rw [List.zipWith_cons_cons]
    by_cases e : x - y = 0
    · have e2 : y = x := by omega
      rw [List.filter_cons_of_neg (by simp [e]), ih]
      simp [e2]
    · have e2 : ¬ y = x := by omega
      rw [List.filter_cons_of_pos (by simp [e])]
      simp [e2]
theorem sub_le : ∀ {a b : List Int}, a.length = b.length → ((subL a b).filter (fun x => decide (x < 0))).isEmpty = (b.zip a).all (fun z => decide (z.1 ≤ z.2))
  | [], [], _ => by simp [subL]
  | [], _ :: _, h => by simp at h
  | _ :: _, [], h => by simp at h
  | x :: a, y :: b, h => by
    have ih := sub_le (a := a) (b := b) (by simpa using h)
    unfold subL at ih ⊢
    rw [List.zipWith_cons_cons]
    by_cases e : x - y < 0
    · have e2 : ¬ y ≤ x := by omega
      rw [List.filter_cons_of_pos (by simp [e])]
      simp [e2]
    · have e2 : y ≤ x := by omega
      rw [List.filter_cons_of_neg (by simp [e]), ih]
      simp [e2]
def stepR (xs : List Int) (st : List Int × List Int) (r : Rw) : List Int × List Int := mvStep st (some (r.2.1, r.2.2.1), xs.getD r.1 0)
def mvR (n : Nat) (xs : List Int) (rows : List Rw) : List Int × List Int := rows.foldl (stepR xs) (zeros n, zeros n)
theorem mvR_snoc (n : Nat) (xs : List Int) (rows : List Rw) (r : Rw) : mvR n xs (rows ++ [r]) = stepR xs (mvR n xs rows) r := by simp [mvR, List.foldl_append]
theorem mvR_len (n : Nat) (xs : List Int) (rows : List Rw) : (mvR n xs rows).1.length = n ∧ (mvR n xs rows).2.length = n := by
  have : ∀ (rows : List Rw) (s : List Int × List Int), s.1.length = n → s.2.length = n → (rows.foldl (stepR xs) s).1.length = n ∧ (rows.foldl (stepR xs) s).2.length = n := by
    intro rows
    induction rows with
    | nil => intro s h1 h2; exact ⟨h1, h2⟩
    | cons z zs ih =>
      intro s h1 h2
      refine ih _ ?_ ?_
      · simp only [stepR, mvStep, addAt_len]; exact h1
      · simp only [stepR, mvStep]; split
        · rw [addAt_len]; exact h2
        · exact h2
  exact this rows _ (by simp [zeros]) (by simp [zeros])
theorem zs_at {cs : List Int} {gs : List Gp} {xs : List Int} (hl : xs.length = gs.length) {j : Nat} (hj : j < gs.length) : (zsOf cs gs xs)[j]? = some (routeOf cs gs gs[j], xs[j]) := by
  unfold zsOf
  rw [List.getElem?_zip_eq_some]
  exact ⟨by rw [List.getElem?_map, List.getElem?_eq_getElem hj]; rfl, List.getElem?_eq_getElem (by omega)⟩
theorem mvR_all {cs : List Int} {gs : List Gp} {xs : List Int} (hl : xs.length = gs.length) : mvR cs.length xs (rowsTo cs gs gs.length) = mvOf cs.length (zsOf cs gs xs) := by
  have key : ∀ n, n ≤ gs.length → mvR cs.length xs (rowsTo cs gs n) = mvOf cs.length ((zsOf cs gs xs).take n) := by
    intro n
    induction n with
    | zero => intro _; rfl
    | succ n ih =>
      intro h
      have hg : gs[n]? = some gs[n] := List.getElem?_eq_getElem (by omega)
      rw [rowsTo_succ hg, take_snoc (zs_at hl (by omega)), mvOf_snoc, ← ih (by omega)]
      unfold rowAt
      cases hr : routeOf cs gs gs[n] with
      | none => simp [mvStep]
      | some r =>
        show mvR cs.length xs (rowsTo cs gs n ++ [(n, r.1, r.2, gs[n].2)]) = _
        rw [mvR_snoc]
        unfold stepR
        simp only
        rw [List.getD_eq_getElem?_getD, List.getElem?_eq_getElem (show n < xs.length by omega)]
        rfl
  have := key gs.length (Nat.le_refl _)
  rw [List.take_of_length_le (by unfold zsOf; rw [List.length_zip, List.length_map]; omega)] at this
  exact this
theorem row_mem {cs : List Int} {gs : List Gp} {n : Nat} {r : Rw} (h : r ∈ rowsTo cs gs n) : ∃ g, gs[r.1]? = some g ∧ routeOf cs gs g = some (r.2.1, r.2.2.1) ∧ r.1 < n := by
  unfold rowsTo at h
  rw [List.mem_filterMap] at h
  obtain ⟨j, hj, e⟩ := h
  rw [Option.bind_eq_some_iff] at e
  obtain ⟨g, hg, e⟩ := e
  unfold rowAt at e
  obtain ⟨q, hq, e⟩ := Option.map_eq_some_iff.mp e
  subst e
  exact ⟨g, hg, hq, List.mem_range.mp hj⟩
theorem rows_has {cs : List Int} {gs : List Gp} {n k : Nat} (hk : k < n) (hkg : k < gs.length) : ((rowsTo cs gs n).map (fun r => (r.1 : Int))).contains (k : Int) = (routeOf cs gs gs[k]).isSome := by
  rw [Bool.eq_iff_iff, List.contains_iff_mem]
  constructor
  · intro h
    obtain ⟨r, hr, e⟩ := List.mem_map.mp h
    obtain ⟨g, hg, hq, _⟩ := row_mem hr
    have e : r.1 = k := by have e : (r.1 : Int) = k := e; omega
    rw [e, List.getElem?_eq_getElem hkg] at hg
    cases hg
    rw [hq]; rfl
  · intro h
    obtain ⟨q, hq⟩ := Option.isSome_iff_exists.mp h
    refine List.mem_map.mpr ⟨(k, q.1, q.2, gs[k].2), ?_, rfl⟩
    unfold rowsTo
    rw [List.mem_filterMap]
    refine ⟨k, List.mem_range.mpr hk, ?_⟩
    rw [List.getElem?_eq_getElem hkg]
    unfold rowAt
    show Option.map _ (routeOf cs gs gs[k]) = _
    rw [hq]; rfl
def othOf (cs : List Int) (gs : List Gp) (n : Nat) : List Nat := (List.range n).filter (fun k => !((rowsTo cs gs gs.length).map (fun r => (r.1 : Int))).contains (k : Int))
theorem oth_good {cs : List Int} {gs : List Gp} {xs : List Int} (hl : xs.length = gs.length) : (((othOf cs gs xs.length).map (fun (k : Nat) => (k : Int))).filter (fun k => !decide (xs.getD k.toNat 0 = 0))).isEmpty = (zsOf cs gs xs).all goodZ := by
  rw [Bool.eq_iff_iff, List.isEmpty_iff, List.filter_eq_nil_iff, List.all_eq_true]
  constructor
  · intro h z hz
    obtain ⟨k, hk, e⟩ := List.mem_iff_getElem.mp hz
    have hkg : k < gs.length := by have := hk; unfold zsOf at this; rw [List.length_zip, List.length_map] at this; omega
    have e2 := zs_at (cs := cs) hl hkg
    rw [List.getElem?_eq_getElem hk, e] at e2
    cases e2
    unfold goodZ
    cases hr : routeOf cs gs gs[k] with
    | some r => rfl
    | none =>
      have := h (k : Int) (List.mem_map.mpr ⟨k, ?_, rfl⟩)
      · rw [Int.toNat_natCast, List.getD_eq_getElem?_getD, List.getElem?_eq_getElem (show k < xs.length by omega)] at this
        simpa using this
      · unfold othOf
        rw [List.mem_filter]
        refine ⟨List.mem_range.mpr (by omega), ?_⟩
        rw [rows_has hkg hkg, hr]; rfl
  · intro h k hk0
    obtain ⟨k, hk, rfl⟩ := List.mem_map.mp hk0
    unfold othOf at hk
    rw [List.mem_filter, List.mem_range] at hk
    have hkg : k < gs.length := by omega
    rw [rows_has hkg hkg] at hk
    have := h _ (List.mem_of_getElem? (zs_at (cs := cs) hl hkg))
    unfold goodZ at this
    rw [Int.toNat_natCast, List.getD_eq_getElem?_getD, List.getElem?_eq_getElem (show k < xs.length by omega)]
    cases hr : routeOf cs gs gs[k] with
    | some r => rw [hr] at hk; simp at hk
    | none => rw [hr] at this; simpa using this
theorem meets_by {cs : List Int} {gs : List Gp} {xs : List Int} (hl : xs.length = gs.length) : meetsD cs gs xs =
    ((((othOf cs gs xs.length).map (fun (k : Nat) => (k : Int))).filter (fun k => !decide (xs.getD k.toNat 0 = 0))).isEmpty && ((subL (rExc cs gs) (mvR cs.length xs (rowsTo cs gs gs.length)).1).filter (fun x => !decide (x = 0))).isEmpty && ((subL (rFre cs gs) (mvR cs.length xs (rowsTo cs gs gs.length)).2).filter (fun x => decide (x < 0))).isEmpty) := by
  have hm := mvOf_len cs.length (zsOf cs gs xs)
  rw [mvR_all hl, oth_good hl, sub_eq (by rw [rExc_len, hm.1]), sub_le (by rw [rFre_len, hm.2])]
  rfl
theorem oth_mem {cs : List Int} {gs : List Gp} {n : Nat} {k : Int} (h : k ∈ (othOf cs gs n).map (fun (k : Nat) => (k : Int))) : ∃ m : Nat, k = m ∧ m < n := by
  obtain ⟨m, hm, rfl⟩ := List.mem_map.mp h
  unfold othOf at hm
  rw [List.mem_filter, List.mem_range] at hm
  exact ⟨m, rfl, hm.1⟩
theorem Rl.app {β : Type} {R : V → β → Prop} {vs ws : List V} {rs ss : List β} (h : Rl R vs rs) (h' : Rl R ws ss) : Rl R (vs ++ ws) (rs ++ ss) := by
  refine ⟨by simp [h.1, h'.1], fun j v r h1 h2 => ?_⟩
  by_cases hj : j < vs.length
  · rw [List.getElem?_append_left hj] at h1
    rw [List.getElem?_append_left (by rw [← h.1]; exact hj)] at h2
    exact h.2 j v r h1 h2
  · rw [List.getElem?_append_right (by omega)] at h1
    rw [List.getElem?_append_right (by rw [← h.1]; omega), ← h.1] at h2
    exact h'.2 _ v r h1 h2
def TuV (K : PySem.W.Frag) (H : Hp) (v : V) (xs : List Int) : Prop := ∃ T, v = .ref T ∧ SqT K H T (xs.map V.int)
theorem TuV.tk {K : PySem.W.Frag} {H H' : Hp} {v : V} {xs : List Int} (h : TuV K H v xs) (s : TupK H H') : TuV K H' v xs := by
  obtain ⟨T, e, h⟩ := h; exact ⟨T, e, s.sq h⟩
def MM : Nat := 10 ^ 12
def VF (K : PySem.W.Frag) (X : Addr → Prop) (H : Hp) (v : V) : Prop := ∃ d, Dw K X H v d ∧ Fit (10 ^ 29) 4 5000 d
theorem VF.l {K : PySem.W.Frag} {X : Addr → Prop} {H H' : Hp} {v : V} (h : VF K X H v) (l : LX X H H') : VF K X H' v := by
  obtain ⟨d, h1, h2⟩ := h; exact ⟨d, h1.lx l, h2⟩
def ITn (K : PySem.W.Frag) (H : Hp) (p : Addr) : Prop := ∃ xs : List Int, SqT K H p (xs.map V.int) ∧ 1 ≤ xs.length ∧ xs.length ≤ 10 ∧ ∀ x ∈ xs, x.natAbs ≤ 10 ^ 12
theorem ITn.tk {K : PySem.W.Frag} {H H' : Hp} {p : Addr} (h : ITn K H p) (s : TupK H H') : ITn K H' p := by obtain ⟨xs, h1, h2⟩ := h; exact ⟨xs, s.sq h1, h2⟩
def X2 (st g : Addr) (a : Addr) : Prop := a = st ∨ a = g
def Xd3 (st g D : Addr) (a : Addr) : Prop := a = st ∨ a = g ∨ a = D
end Pv
namespace Pv
open PySem PySem.Spec PyProof.Rows L2
def topS (i : Nat) : Stmt := PySem.Challenge.pw_postvote_k33_ranges_of_small_instances.main.body.getD i (.Pass ⟨0, 0, 0, 0⟩)
abbrev sSt : Stmt := topS 28
theorem scSt : FnScope ["_law_script", "_law_greats", "_law_whole", "_law_cell"] ["_law_script"] (defScope sSt) := ⟨rfl, rfl, rfl, by decide +kernel, rfl, by decide +kernel, by decide +kernel⟩
abbrev sDr : Stmt := topS 29
theorem scDr : FnScope ["_law_deck", "_law_many", "_law_rest", "_law_mixed"] ["_law_deck", "_law_many"] (defScope sDr) := ⟨rfl, rfl, rfl, by decide +kernel, rfl, by decide +kernel, by decide +kernel⟩
theorem lay_ints : ∀ ns : List Int, PyData.canLayAll0 (ns.map PyData.int) = true
  | [] => by simp [PyData.canLayAll0]
  | n :: ns => by simp [PyData.canLayAll0, PyData.canLay0, lay_ints ns]
theorem dep_ints : ∀ ns : List Int, PyData.depthAll (ns.map PyData.int) = 0
  | [] => by simp [PyData.depthAll]
  | n :: ns => by simp [PyData.depthAll, PyData.depth, dep_ints ns]
theorem shaped_ints (ns : List Int) : SeqAt.shaped (.list (ns.map PyData.int)) = true := by
  show (PyData.canLay0 (.list (ns.map PyData.int)) && decide (PyData.depth (.list (ns.map PyData.int)) ≤ 64)) = true
  rw [Bool.and_eq_true]
  refine ⟨by simp only [PyData.canLay0]; exact lay_ints ns, decide_eq_true ?_⟩
  simp only [PyData.depth, dep_ints]; omega
theorem eqv_empty (ds : List PyData) : PyData.eqv (.list ds) (.list []) = ds.isEmpty := by
  cases ds <;> simp [PyData.eqv, PyData.eqvAll]
section
variable {P : Program} {w : World} {K : PySem.W.Frag} {mg : Str → Option Value} {base : Heap}
def spStart (K : PySem.W.Frag) : Sp := fun vs H Q _ => ∃ (a : Addr) (ns : List Int), vs = [.ref a] ∧ SqL K H a (ns.map V.int) ∧ ns.length ≤ 63 ∧
  ∀ H' st g, Same H H' → DV H' st g 0 → Q (.ref st) H'
set_option maxHeartbeats 2000000 in
theorem ok_St {f : Addr} {fd : FuncData} (F : Fun K "_law_begin" "_law_begin" sSt f fd)
    (m_abs : mg "abs" = none) (m_len : mg "len" = none) (m_int : mg "int" = none) :
    FnOk P w K mg base CX0 1 f fd ["_law_script"] (spStart K) := by
  refine F.ok scSt (fun vs H Q E h => ?_) (fun cdv A outer s H vs Q E hr h => ?_)
  · obtain ⟨a, ns, rfl, _⟩ := h; rfl
  · obtain ⟨a, ns, rfl, hS, hn, q⟩ := h
    refine ⟨_, pss_cons (ps_setLc (i := 1) (own := [("_law_cell", 3)]) (g := gName 3) (tt := tTest (tOp (rI0 fun i j => .bl (decide (j ≤ i))) (tCB (fun xs H Q => ∃ i, xs = [.int i] ∧ Q (.int (if i < 0 then -i else i)) H) (tCons (tVar 3) tNil)) (tOp (rI CPow fun i j => .int (i ^ j.toNat)) (tC (.int 10)) (tC (.int 18))))) (te := tCB (fun xs H Q => ∃ i, xs = [.int i] ∧ Q (.int (if i < 0 then -i else i)) H) (tCons (tVar 3) tNil)) rfl scSt.nd rfl rfl (sw_true rfl rfl rfl (by decide +kernel)) (pi_list (pv 0)) (blkOk_by (N := ["_law_script", "_law_greats", "_law_whole", "_law_cell"]) (sc := defScope sSt) (by decide +kernel)) (fun _ _ _ _ _ => pg_name (i := 3) scSt.nd rfl (.inl rfl)) (fun _ _ _ _ _ => pts_one (pt_cmpR op_ge (pe_callB call_abs (by rfl) m_abs (by decide +kernel) (pa_cons (pv 3) pa_nil)) (pe_op op_pow (pe_int) (pe_int)) (nomark _))) (fun _ _ _ _ _ => pe_callB call_abs (by rfl) m_abs (by decide +kernel) (pa_cons (pv 3) pa_nil)))
      (pss_cons (ps_set (i := 2) scSt.nd rfl (.inl rfl) (pe_op op_add (pe_int) (pe_callB call_lenQ (by rfl) m_len PySem.boot_len (pa_cons (pv 0) pa_nil))))
      (pss_cons (ps_for PassesOwn.never rfl (pi_list (pv 0)) (pg_name (i := 3) scSt.nd rfl (.inl rfl))
        (pss_one (ps_set (i := 2) scSt.nd rfl (.inl rfl) (pe_op op_mod (pe_op op_add (pe_op op_add (pe_op op_mul (pv 2) (pe_int)) (pe_op op_mul (pe_int) (pe_callB call_abs (by rfl) m_abs (by decide +kernel) (pa_cons (pv 3) pa_nil)))) (pe_callTy call_int1 (by rfl) m_int (by decide +kernel) (pa_cons (pe_cmpR op_lt (pv 3) (pe_int) (nomark _)) pa_nil))) (pe_int)))))
      (pss_one (ps_ret (pe_lst (pa_cons (pe_revL (pv 1)) (pa_cons (pv 2) (pa_cons (pe_int) pa_nil)))))))), ?_⟩
    refine ⟨.ref a, rfl, a, rfl, ⟨_, hS⟩, fun D nD => lc_it (walk_list (K := K) (a := a) (xs := ns.map V.int))
      (fun j H2 => Same H H2 ∧ ∃ ks : List Int, H2 D = some (.lst (ks.map V.int)) ∧ ks.length ≤ j) ⟨sameNew nD, [], upd_same, Nat.le_refl _⟩ (fun j H2 _ h => h.1.seq hS) ?_ ?_⟩
    · rintro j v H2 H3 hlt ⟨s2, ks, e2, l2⟩ ⟨rfl, hv⟩
      have hv' : (ns.map V.int)[j]? = some v := hv
      rw [List.getElem?_map] at hv'
      obtain ⟨z, hz, rfl⟩ := Option.map_eq_some_iff.mp hv'
      rw [List.length_map] at hlt
      refine ⟨rfl, .int z, rfl, z, rfl, _, _, rfl, rfl, ⟨by decide, by decide, by decide⟩, _, _, rfl, rfl, _, rfl, ite2 (fun h1 => ?_) (fun h1 => ?_)⟩
      · refine ⟨.int z, rfl, z, rfl, _, e2, ?_, samePut s2 nD, ks ++ [if z < 0 then -z else z], ?_, by simp; omega⟩
        · rw [List.length_map]; exact small (by omega)
        · rw [upd_same, List.map_append]; rfl
      · exact ⟨s2, ks, e2, by omega⟩
    rintro H2 ⟨s2, ks, e2, l2⟩
    rw [List.length_map] at l2
    refine ⟨.ref a, rfl, a, _, rfl, .inl (s2.seq hS), _, _, rfl, rfl, ?_⟩
    rw [List.length_map]
    refine ⟨.ref a, rfl, a, rfl, ⟨_, s2.seq hS⟩, for_it (walk_list (K := K) (a := a) (xs := ns.map V.int))
      (fun j σ H3 => ∃ (wh : Int) (y3 : Option V), σ = [some (.ref a), some (.ref D), some (.int wh), y3] ∧ 0 ≤ wh ∧ wh < 2305843009213693951 ∧ Same H2 H3)
      ⟨_, _, rfl, by omega, by omega, Same.refl _⟩ (fun j σ H3 _ h => by obtain ⟨_, _, _, _, _, s3⟩ := h; exact (s2.trans s3).seq hS) ?_ ?_⟩
    · rintro j v σ H3 H4 hlt ⟨wh, y3, rfl, w0, w1, s3⟩ ⟨rfl, hv⟩
      have hv' : (ns.map V.int)[j]? = some v := hv
      rw [List.getElem?_map] at hv'
      obtain ⟨z, hz, rfl⟩ := Option.map_eq_some_iff.mp hv'
      refine ⟨.int wh, rfl, _, _, rfl, rfl, .inr ⟨by decide, by decide⟩, .int z, rfl, z, rfl, _, _, rfl, rfl, .inl ⟨by decide, by decide⟩, _, _, rfl, rfl, .int z, rfl, _, _, rfl, rfl, .inr ⟨_, rfl, _, _, rfl, rfl, _, _, rfl, rfl, (by show (0 : Int) < 2305843009213693951; decide), ?_⟩⟩
      exact ⟨_, _, rfl, Int.emod_nonneg _ (by decide), Int.emod_lt_of_pos _ (by decide), s3⟩
    rintro σ H3 ⟨wh, y3, rfl, w0, w1, s3⟩
    refine ⟨.ref D, rfl, D, _, rfl, SqL.of (s3 _ _ e2), fun g ng => ⟨.int wh, rfl, (show (3 : Nat) ≤ sizeLine by decide), fun st nst => ?_⟩⟩
    have s4 := (sameNew (o := .lst (ks.map V.int).reverse) ng).trans (sameNew (o := .lst [.ref g, .int wh, .int 0]) nst)
    refine q _ st g ((s2.trans s3).trans s4) ⟨⟨wh, 0, ks.reverse, upd_same, upNew nst (by rw [upd_same, List.map_reverse]), w0, w1, Nat.le_refl _, by rw [List.length_reverse]; omega⟩, (ne_of_none upd_same nst).symm⟩
def spDraw : Sp := fun vs H Q _ => ∃ (st g : Addr) (t : Nat) (m : Int), vs = [.ref st, .int m] ∧ DV H st g t ∧ t < 1000000 ∧ 0 < m ∧ m ≤ 2 ^ 60 ∧
  ∀ (H' : Hp) (d : Int), 0 ≤ d → d < m → DV H' st g (t + 1) → Ext st g H H' → Q (.int d) H'
set_option maxHeartbeats 2000000 in
theorem ok_Dr {f : Addr} {fd : FuncData} (F : Fun K "_law_next" "_law_next" sDr f fd)
     :
    FnOk P w K mg base CX0 1 f fd ["_law_deck", "_law_many"] spDraw := by
  refine F.ok scDr (fun vs H Q E h => ?_) (fun cdv A outer s H vs Q E hr h => ?_)
  · obtain ⟨st, g, t, m, rfl, _⟩ := h; rfl
  · obtain ⟨st, g, t, m, rfl, hd, ht, hm, hm2, q⟩ := h
    have hu64 : (A.deeper (envOfC "_law_next" (defScope sDr) s.heap.objs.size f cdv)).units + 64 < cLine := by have := hr.un; omega
    refine ⟨_, pss_cons (ps_while PassesOwn.never (pt_cmpR (op_neD hu64) (pe_ix ix_list (pv 0) (pe_int) (fun _ _ => rfl)) (pe_lst (pa_nil)) (nomark _))
        (pss_cons (ps_set (i := 2) scDr.nd rfl (.inl rfl) (pe_bm0 PySem.F.plainAttrs_list PySem.F.slot_list_pop PySem.F.type_list_pop mt_pop (pe_ix ix_list (pv 0) (pe_int) (fun _ _ => rfl))))
        (pss_one (ps_if (pt_cmpR op_gt (pv 2) (pe_int) (nomark _))
          (pss_cons (ps_expr (pe_bm PySem.F.plainAttrs_list PySem.F.slot_list_append PySem.F.type_list_append mt_append (pe_ix ix_list (pv 0) (pe_int) (fun _ _ => rfl)) (pa_cons (pe_op op_fdivW (pv 2) (pv 1)) pa_nil)))
          (pss_one (ps_ret (pe_op op_mod (pv 2) (pv 1))))) pss_nil))))
      (pss_cons (ps_asg (pe_op op_add (pe_ix ix_list (pv 0) (pe_int) (fun _ _ => rfl)) (pe_int)) (pg_sub (pv 0) (pe_int) set_list))
      (pss_cons (ps_set (i := 3) scDr.nd rfl (.inl rfl) (pe_op op_add (pe_op op_mul (pe_ix ix_list (pv 0) (pe_int) (fun _ _ => rfl)) (pe_op op_add (pe_int) (pe_op op_mul (pe_int) (pe_ix ix_list (pv 0) (pe_int) (fun _ _ => rfl))))) (pe_op op_mul (pe_int) (pe_ix ix_list (pv 0) (pe_int) (fun _ _ => rfl)))))
      (pss_cons (ps_set (i := 3) scDr.nd rfl (.inl rfl) (pe_op op_mod (pv 3) (pe_int)))
      (pss_cons (ps_set (i := 3) scDr.nd rfl (.inl rfl) (pe_op op_mod (pe_op op_mul (pv 3) (pv 3)) (pe_int)))
      (pss_one (ps_ret (pe_op op_mod (pe_op op_fdiv (pe_op op_mod (pe_op op_mul (pv 3) (pv 3)) (pe_int)) (pe_int)) (pv 1)))))))), ?_⟩
    obtain ⟨wh, k, gr, hs, hg, w0, w1, hk, hl⟩ := hd.ex
    have nsg := hd.n1
    refine ⟨fun n σ H2 => ∃ (y2 : Option V) (gr2 : List Int), σ = [some (.ref st), some (.int m), y2, none] ∧ gr2.length = n ∧ H2 st = some (.lst [.ref g, .int wh, .int k]) ∧ H2 g = some (.lst (gr2.map V.int)) ∧ gr2.length ≤ 63 ∧ Ext st g H H2,
      ⟨gr.length, none, gr, rfl, rfl, hs, hg, hl, fun b o h _ _ => h⟩, ?_⟩
    rintro n σ H2 ⟨y2, gr2, rfl, rfl, hs2, hg2, hl2, x2⟩
    refine ⟨.ref st, rfl, st, _, 0, .ref g, rfl, rfl, SqL.of hs2, atI_nat (j := 0) rfl, Nat.zero_le _, fun p np => ⟨.list (gr2.map PyData.int), .list [], .lst (SqL.of (upNew np hg2)) (dp_ints gr2), .lst (SqL.of upd_same) .nil, shaped_ints gr2, by decide, _, rfl, ?_⟩⟩
    rw [eqv_empty]
    have hs3 := upNew np (o := .lst []) hs2
    have hg3 := upNew np (o := .lst []) hg2
    have x3 : Ext st g H (upd H2 p (.lst [])) := x2.trans (Ext.of (sameNew np))
    generalize upd H2 p (.lst []) = H3 at hs3 hg3 x3
    cases gr2 with
    | nil =>
      refine ⟨.ref st, rfl, st, _, 2, .int k, rfl, rfl, SqL.of hs3, atI_nat (j := 2) rfl, _, _, rfl, rfl, .ref st, rfl, st, _, 2, 2, rfl, rfl, hs3, rfl, ?_⟩
      have e4 : (upd H3 st (.lst [.ref g, .int wh, .int ((k : Int) + 1)])) st = some (.lst [.ref g, .int wh, .int ((k : Int) + 1)]) := upd_same
      have x4 : Ext st g H (upd H3 st (.lst [.ref g, .int wh, .int ((k : Int) + 1)])) := fun b o h n1 n2 => by rw [upd_ne n1]; exact x3 b o h n1 n2
      have d4 : DV (upd H3 st (.lst [.ref g, .int wh, .int ((k : Int) + 1)])) st g (t + 1) := ⟨⟨wh, k + 1, [], by rw [e4]; rfl, by rw [upd_ne nsg.symm]; exact hg3, w0, w1, by omega, by simp⟩, nsg⟩
      have r4 := SqL.of (K := K) e4
      refine ⟨.ref st, rfl, st, _, 1, .int wh, rfl, rfl, r4, atI_nat (j := 1) rfl, .ref st, rfl, st, _, 2, .int ((k : Int) + 1), rfl, rfl, r4, atI_nat (j := 2) rfl, _, _, rfl, rfl, .inl ⟨by decide, by decide⟩, _, _, rfl, rfl, _, _, rfl, rfl, .inl ⟨by omega, by omega⟩, .ref st, rfl, st, _, 2, .int ((k : Int) + 1), rfl, rfl, r4, atI_nat (j := 2) rfl, _, _, rfl, rfl, .inl ⟨by decide, by decide⟩, _, _, rfl, rfl, ?_⟩
      refine ⟨_, rfl, _, _, rfl, rfl, (by show (0 : Int) < 2305843009213693951; decide), ?_⟩
      dsimp only
      generalize hu : (wh * (48271 + 69621 * ((k : Int) + 1)) + 40692 * ((k : Int) + 1)) % 2305843009213693951 = u
      have hu1 : 0 ≤ u := by rw [← hu]; exact Int.emod_nonneg _ (by decide)
      have hu2 : u < 2305843009213693951 := by rw [← hu]; exact Int.emod_lt_of_pos _ (by decide)
      refine ⟨.int u, rfl, .int u, rfl, _, _, rfl, rfl, .inl ⟨by omega, by omega⟩, _, _, rfl, rfl, (by show (0 : Int) < 2305843009213693951; decide), ?_⟩
      dsimp only
      generalize hv : u * u % 2305843009213693951 = v
      have hv1 : 0 ≤ v := by rw [← hv]; exact Int.emod_nonneg _ (by decide)
      have hv2 : v < 2305843009213693951 := by rw [← hv]; exact Int.emod_lt_of_pos _ (by decide)
      refine ⟨.int v, rfl, .int v, rfl, _, _, rfl, rfl, .inl ⟨by omega, by omega⟩, _, _, rfl, rfl, (by show (0 : Int) < 4611686018427387847; decide), _, _, rfl, rfl, ⟨by decide, by decide⟩, .int m, rfl, _, _, rfl, rfl, hm, ?_⟩
      exact q _ _ (Int.emod_nonneg _ (by omega)) (Int.emod_lt_of_pos _ hm) d4 x4
    | cons b0 ls =>
      have hne : (b0 :: ls) ≠ [] := by simp
      refine ⟨fun σ' H' => ∃ (y2 : Option V) (gr3 : List Int), σ' = [some (.ref st), some (.int m), y2, none] ∧ gr3.length = ls.length ∧ H' st = some (.lst [.ref g, .int wh, .int k]) ∧ H' g = some (.lst (gr3.map V.int)) ∧ gr3.length ≤ 63 ∧ Ext st g H H', ?_, ?_⟩
      · rintro σ' H' ⟨y2, gr3, e1, e2, r3⟩
        exact ⟨ls.length, by simp, y2, gr3, e1, e2, r3⟩
      obtain ⟨z, hz⟩ : ∃ z, (b0 :: ls)[(b0 :: ls).length - 1]? = some z := ⟨_, List.getElem?_eq_getElem (by simp)⟩
      have hzv : ((b0 :: ls).map V.int)[((b0 :: ls).map V.int).length - 1]? = some (.int z) := by rw [List.length_map, List.getElem?_map, hz]; rfl
      have hdl : ((b0 :: ls).map V.int).dropLast = ((b0 :: ls).dropLast).map V.int := by rw [List.map_dropLast]
      refine ⟨.ref st, rfl, st, _, 0, .ref g, rfl, rfl, SqL.of hs3, atI_nat (j := 0) rfl, .inl ⟨rfl, _, SqL.of hg3⟩, g, _, .int z, rfl, rfl, hg3, hzv, ?_⟩
      rw [hdl]
      have ldl : ((b0 :: ls).dropLast).length = ls.length := by simp
      have hs4 : (upd H3 g (.lst (((b0 :: ls).dropLast).map V.int))) st = some (.lst [.ref g, .int wh, .int k]) := by rw [upd_ne nsg]; exact hs3
      have hg4 : (upd H3 g (.lst (((b0 :: ls).dropLast).map V.int))) g = some (.lst (((b0 :: ls).dropLast).map V.int)) := upd_same
      have x4 : Ext st g H (upd H3 g (.lst (((b0 :: ls).dropLast).map V.int))) := fun b o h n1 n2 => by rw [upd_ne n2]; exact x3 b o h n1 n2
      generalize upd H3 g (.lst (((b0 :: ls).dropLast).map V.int)) = H4 at hs4 hg4 x4
      refine ⟨.int z, rfl, _, _, rfl, rfl, _, rfl, ite2 (fun h1 => ?_) (fun h1 => ?_)⟩
      · refine ⟨.ref st, rfl, st, _, 0, .ref g, rfl, rfl, SqL.of hs4, atI_nat (j := 0) rfl, .inl ⟨rfl, _, SqL.of hg4⟩, .int z, rfl, .int m, rfl, _, _, rfl, rfl, wide_div (b := 61) hm (by omega) (by decide) (by decide), g, _, _, rfl, rfl, hg4, ?_, ?_⟩
        · rw [List.length_map, ldl]; simp at hl2; exact small (by omega)
        refine ⟨.int z, rfl, .int m, rfl, _, _, rfl, rfl, hm, ?_⟩
        refine q _ _ (Int.emod_nonneg _ (by omega)) (Int.emod_lt_of_pos _ hm) ⟨⟨wh, k, (b0 :: ls).dropLast ++ [z / m], by rw [upd_ne nsg]; exact hs4, ?_, w0, w1, by omega, ?_⟩, nsg⟩ (fun b o h n1 n2 => by rw [upd_ne n2]; exact x4 b o h n1 n2)
        · rw [upd_same, List.map_append]; rfl
        · rw [List.length_append, ldl]; simp at hl2 ⊢; omega
      · exact ⟨_, (b0 :: ls).dropLast, rfl, ldl, hs4, hg4, by rw [ldl]; simp at hl2; omega, x4⟩
end
end Pv
namespace Pv
open PySem PySem.Spec PyProof.Rows L2
abbrev sAm : Stmt := topS 31
theorem scAm : FnScope ["_law_deck", "_law_top"] ["_law_deck", "_law_top"] (defScope sAm) := ⟨rfl, rfl, rfl, by decide +kernel, rfl, by decide +kernel, by decide +kernel⟩
abbrev sIn : Stmt := topS 32
theorem scIn : FnScope ["_law_deck", "_law_most_posts", "_law_most_groups", "_law_top", "_law_many", "_law_capacities", "_law_groups", "_law_post", "_law_turn", "_law_rest", "_law_order", "_law_favorite", "_law_size"] ["_law_deck", "_law_most_posts", "_law_most_groups", "_law_top"] (defScope sIn) := ⟨rfl, rfl, rfl, by decide +kernel, rfl, by decide +kernel, by decide +kernel⟩
section
variable {P : Program} {w : World} {K : PySem.W.Frag} {mg : Str → Option Value} {base : Heap}
def spAm : Sp := fun vs H Q _ => ∃ (st g : Addr) (t : Nat) (top : Int), vs = [.ref st, .int top] ∧ DV H st g t ∧ t + 10 ≤ 1000000 ∧ 1 ≤ top ∧ top ≤ 10 ^ 12 ∧
  ∀ (H' : Hp) (d : Int) (t' : Nat), 1 ≤ d → d ≤ top → DV H' st g t' → t' ≤ t + 3 → Ext st g H H' → Q (.int d) H'
theorem ok_Am {f fDr : Addr} {fd fdDr : FuncData} (F : Fun K "_law_amount" "_law_amount" sAm f fd)
    (FDr : Fun K "_law_next" "_law_next" sDr fDr fdDr) (bDr : Binds K fdDr ["_law_deck", "_law_many"] []) (gDr : mg "_law_next" = some (.ref fDr)) (GDr : FnOk P w K mg base CX0 1 fDr fdDr ["_law_deck", "_law_many"] spDraw)
    (m_min : mg "min" = none) :
    FnOk P w K mg base CX0 2 f fd ["_law_deck", "_law_top"] spAm := by
  refine F.ok scAm (fun vs H Q E h => ?_) (fun cdv A outer s H vs Q E hr h => ?_)
  · obtain ⟨st, g, t, top, rfl, _⟩ := h; rfl
  · obtain ⟨st, g, t, top, rfl, hd, ht, ht1, ht2, q⟩ := h
    refine ⟨_, pss_one (ps_ret (pe_ix ix_list (pe_lst (pa_cons (pe_int) (pa_cons (pe_op op_add (pe_int) (pe_call GDr (hr.mono (by omega)) (by rfl) gDr FDr.kp bDr .nil pass0 (pa_cons (pv 0) (pa_cons (pe_callB (call_min2 rfl) (by rfl) m_min (by decide +kernel) (pa_cons (pv 1) (pa_cons (pe_int) pa_nil))) pa_nil)))) (pa_cons (pe_op op_add (pe_int) (pe_call GDr (hr.mono (by omega)) (by rfl) gDr FDr.kp bDr .nil pass0 (pa_cons (pv 0) (pa_cons (pv 1) pa_nil)))) (pa_cons (pv 1) pa_nil))))) (pe_call GDr (hr.mono (by omega)) (by rfl) gDr FDr.kp bDr .nil pass0 (pa_cons (pv 0) (pa_cons (pe_int) pa_nil))) (fun _ _ => rfl))), ?_⟩
    refine ⟨.ref st, rfl, .int top, rfl, _, _, rfl, st, g, t, _, rfl, hd, by omega, by split <;> omega, by split <;> omega, fun H1 d1 h10 h11 D1 X1 => ⟨_, _, rfl, rfl, ?_⟩⟩
    refine ⟨.ref st, rfl, .int top, rfl, st, g, t + 1, _, rfl, D1, by omega, by omega, by omega, fun H2 d2 h20 h21 D2 X2 => ⟨_, _, rfl, rfl, .int top, rfl, (show (4 : Nat) ≤ sizeLine by decide), fun Z nZ => ?_⟩⟩
    obtain ⟨o1, o2⟩ := D2.off nZ
    refine ⟨.ref st, rfl, st, g, t + 1 + 1, _, rfl, D2.new nZ, by omega, by decide, by decide, fun H3 d3 h30 h31 D3 X3 => ?_⟩
    have eZ := X3 _ _ upd_same o1 o2
    have hm1 : 1 + d1 ≤ top := by split at h11 <;> omega
    obtain ⟨z, hz, hz1, hz2⟩ : ∃ z : Int, atI [V.int 1, V.int (1 + d1), V.int (1 + d2), V.int top] d3 = some (.int z) ∧ 1 ≤ z ∧ z ≤ top := by
      obtain h | h | h | h : d3 = 0 ∨ d3 = 1 ∨ d3 = 2 ∨ d3 = 3 := by omega
      · exact ⟨1, by rw [h]; rfl, by omega, by omega⟩
      · exact ⟨1 + d1, by rw [h]; rfl, by omega, hm1⟩
      · exact ⟨1 + d2, by rw [h]; rfl, by omega, by omega⟩
      · exact ⟨top, by rw [h]; rfl, by omega, by omega⟩
    exact ⟨Z, _, _, _, rfl, rfl, SqL.of eZ, hz, q _ _ _ hz1 hz2 D3 (by omega) (((X1.trans X2).trans (Ext.of (sameNew nZ))).trans X3)⟩
def spInst (K : PySem.W.Frag) : Sp := fun vs H Q _ => ∃ (st g : Addr) (t : Nat) (pm gm top : Int), vs = [.ref st, .int pm, .int gm, .int top] ∧ DV H st g t ∧ t + 500 ≤ 1000000 ∧ 1 ≤ pm ∧ pm ≤ 6 ∧ 1 ≤ gm ∧ gm ≤ 10 ∧ 1 ≤ top ∧ top ≤ 3 * 10 ^ 11 ∧
  ∀ (H' : Hp) (p : Addr) (t' : Nat) (cs : List Int) (gs : List Gp), DV H' st g t' → t' ≤ t + 300 → Ext st g H H' → Dp K H' (.ref p) (dInst cs gs) → InsOk cs gs → (∀ g ∈ gs, g.1.Nodup) → (cs.length : Int) ≤ pm → (∀ x ∈ cs, x ≤ 3 * top) → (gs.length : Int) ≤ gm → (∀ g ∈ gs, g.2 ≤ top) → Q (.ref p) H'
set_option maxHeartbeats 8000000 in
theorem ok_In {f fDr fAm : Addr} {fd fdDr fdAm : FuncData} (F : Fun K "_law_instance" "_law_instance" sIn f fd)
    (FDr : Fun K "_law_next" "_law_next" sDr fDr fdDr) (bDr : Binds K fdDr ["_law_deck", "_law_many"] []) (gDr : mg "_law_next" = some (.ref fDr)) (GDr : FnOk P w K mg base CX0 1 fDr fdDr ["_law_deck", "_law_many"] spDraw)
    (FAm : Fun K "_law_amount" "_law_amount" sAm fAm fdAm) (bAm : Binds K fdAm ["_law_deck", "_law_top"] []) (gAm : mg "_law_amount" = some (.ref fAm)) (GAm : FnOk P w K mg base CX0 2 fAm fdAm ["_law_deck", "_law_top"] spAm)
    (m_range : mg "range" = none) (m_list : mg "list" = none) (m_len : mg "len" = none) (m_min : mg "min" = none) (m_tuple : mg "tuple" = none) :
    FnOk P w K mg base CX0 3 f fd ["_law_deck", "_law_most_posts", "_law_most_groups", "_law_top"] (spInst K) := by
  refine F.ok scIn (fun vs H Q E h => ?_) (fun cdv A outer s H vs Q E hr h => ?_)
  · obtain ⟨st, g, t, pm, gm, top, rfl, _⟩ := h; rfl
  · obtain ⟨st, g, t, pm, gm, top, rfl, hd, ht, hp1, hp6, hg1, hg9, ht1, ht2, q⟩ := h
    refine ⟨_, pss_cons (ps_set (i := 4) scIn.nd rfl (.inl rfl) (pe_op op_add (pe_int) (pe_call GDr (hr.mono (by omega)) (by rfl) gDr FDr.kp bDr .nil pass0 (pa_cons (pv 0) (pa_cons (pv 1) pa_nil)))))
      (pss_cons (ps_par (i := 5) (j := 6) rfl scIn.nd rfl rfl (by decide) rfl rfl (pa_cons (pe_lst (pa_nil)) (pa_cons (pe_lst (pa_nil)) pa_nil)) rfl)
      (pss_cons (ps_for PassesOwn.never rfl (pi_range1 (by rfl) m_range (pa_cons (pv 4) pa_nil)) (pg_name (i := 7) scIn.nd rfl (.inl rfl))
        (pss_one (ps_expr (pe_bm PySem.F.plainAttrs_list PySem.F.slot_list_append PySem.F.type_list_append mt_append (pv 5) (pa_cons (pe_call GAm (hr.mono (by omega)) (by rfl) gAm FAm.kp bAm .nil pass0 (pa_cons (pv 0) (pa_cons (pe_ix ix_list (pe_lst (pa_cons (pv 3) (pa_cons (pe_op op_mul (pe_int) (pv 3)) pa_nil))) (pe_call GDr (hr.mono (by omega)) (by rfl) gDr FDr.kp bDr .nil pass0 (pa_cons (pv 0) (pa_cons (pe_int) pa_nil))) (fun _ _ => rfl)) pa_nil))) pa_nil)))))
      (pss_cons (ps_for PassesOwn.never rfl (pi_range1 (by rfl) m_range (pa_cons (pe_op op_add (pe_int) (pe_call GDr (hr.mono (by omega)) (by rfl) gDr FDr.kp bDr .nil pass0 (pa_cons (pv 0) (pa_cons (pv 2) pa_nil)))) pa_nil)) (pg_name (i := 8) scIn.nd rfl (.inl rfl))
        (pss_cons (ps_set (i := 9) scIn.nd rfl (.inr rfl) (pe_listRg rfl (by rfl) m_list (prg_1 (by rfl) m_range (pv 4))))
        (pss_cons (ps_setLc (i := 10) (own := [("_law_post", 7)]) (g := gName 7) (tt := tYes) (te := tBM K "list" rPopAt (tVar 9) (tCons (tCall spDraw [] E0 (tCons (tVar 0) (tCons (tCB (rLenQ K) (tCons (tVar 9) tNil)) tNil))) tNil)) rfl scIn.nd rfl rfl (sw_true rfl rfl rfl (by decide +kernel)) (pi_range1 (by rfl) m_range (pa_cons (pv 4) pa_nil)) (blkOk_by (N := ["_law_deck", "_law_most_posts", "_law_most_groups", "_law_top", "_law_many", "_law_capacities", "_law_groups", "_law_post", "_law_turn", "_law_rest", "_law_order", "_law_favorite", "_law_size"]) (sc := defScope sIn) (by decide +kernel)) (fun _ _ _ _ _ => pg_name (i := 7) scIn.nd rfl (.inl rfl)) (fun _ _ _ _ _ => pts_nil) (fun _ _ _ _ _ => pe_bm PySem.F.plainAttrs_list PySem.F.slot_list_pop PySem.F.type_list_pop mt_popAt (pv 9) (pa_cons (pe_call GDr (hr.mono (by omega)) (by rfl) gDr FDr.kp bDr .nil pass0 (pa_cons (pv 0) (pa_cons (pe_callB call_lenQ (by rfl) m_len PySem.boot_len (pa_cons (pv 9) pa_nil)) pa_nil))) pa_nil)))
        (pss_cons (ps_set (i := 11) scIn.nd rfl (.inr rfl) (pe_call GDr (hr.mono (by omega)) (by rfl) gDr FDr.kp bDr .nil pass0 (pa_cons (pv 0) (pa_cons (pe_callB (call_min2 rfl) (by rfl) m_min (by decide +kernel) (pa_cons (pv 4) (pa_cons (pe_int) pa_nil))) pa_nil))))
        (pss_cons (ps_if (pt_cmpR op_gt (pe_call GDr (hr.mono (by omega)) (by rfl) gDr FDr.kp bDr .nil pass0 (pa_cons (pv 0) (pa_cons (pe_int) pa_nil))) (pe_int) (nomark _))
          (pss_one (ps_set (i := 10) scIn.nd rfl (.inl rfl) (pe_op op_cat (pe_lst (pa_cons (pv 11) pa_nil)) (pe_lc (own := [("_law_post", 7)]) (g := gName 7) (tt := tTest (tOp rNe (tVar 7) (tVar 11))) (te := tVar 7) rfl scIn.nd (pi_list (pv 10)) (blkOk_by (N := ["_law_deck", "_law_most_posts", "_law_most_groups", "_law_top", "_law_many", "_law_capacities", "_law_groups", "_law_post", "_law_turn", "_law_rest", "_law_order", "_law_favorite", "_law_size"]) (sc := defScope sIn) (by decide +kernel)) (fun _ _ _ _ _ => pg_name (i := 7) scIn.nd rfl (.inl rfl)) (fun _ _ _ _ _ => pts_one (pt_cmpR op_ne (pv 7) (pv 11) (nomark _))) (fun _ _ _ _ _ => pv 7))))) pss_nil)
        (pss_cons (ps_set (i := 12) scIn.nd rfl (.inl rfl) (pe_ix ix_list (pe_lst (pa_cons (pv 4) (pa_cons (pe_callB (call_min2 rfl) (by rfl) m_min (by decide +kernel) (pa_cons (pv 4) (pa_cons (pe_int) pa_nil))) (pa_cons (pe_call GDr (hr.mono (by omega)) (by rfl) gDr FDr.kp bDr .nil pass0 (pa_cons (pv 0) (pa_cons (pe_op op_add (pv 4) (pe_int)) pa_nil))) pa_nil)))) (pe_call GDr (hr.mono (by omega)) (by rfl) gDr FDr.kp bDr .nil pass0 (pa_cons (pv 0) (pa_cons (pe_int) pa_nil))) (fun _ _ => rfl)))
        (pss_one (ps_expr (pe_bm PySem.F.plainAttrs_list PySem.F.slot_list_append PySem.F.type_list_append mt_append (pv 6) (pa_cons (pe_tup (pa_cons (pe_callTy call_tupQ (by rfl) m_tuple (by decide +kernel) (pa_cons (pe_slice sl_list (pv 10) po_none (po_some (pv 12))) pa_nil)) (pa_cons (pe_call GAm (hr.mono (by omega)) (by rfl) gAm FAm.kp bAm .nil pass0 (pa_cons (pv 0) (pa_cons (pv 3) pa_nil))) pa_nil))) pa_nil))))))))))
      (pss_one (ps_ret (pe_tup (pa_cons (pe_callTy call_tupQ (by rfl) m_tuple (by decide +kernel) (pa_cons (pv 5) pa_nil)) (pa_cons (pe_callTy call_tupQ (by rfl) m_tuple (by decide +kernel) (pa_cons (pv 6) pa_nil)) pa_nil)))))))), ?_⟩
    refine ⟨.ref st, rfl, .int pm, rfl, st, g, t, _, rfl, hd, by omega, by omega, by omega, fun H1 d1 h10 h11 D1 X1 => ⟨_, _, rfl, rfl, ?_⟩⟩
    obtain ⟨n, hn⟩ : ∃ n : Nat, 1 + d1 = (n : Int) := ⟨(1 + d1).toNat, by omega⟩
    have hn6 : 1 ≤ n ∧ n ≤ 6 := by omega
    dsimp only
    rw [hn]
    refine ⟨Nat.zero_le _, fun Ca nCa => ⟨Nat.zero_le _, fun Rw nRw => ⟨_, _, rfl, ?_⟩⟩⟩
    have oCa := D1.off nCa
    have fCa := D1.nil X1 nCa
    have D1a := D1.new nCa (o := .lst [])
    have oRw := D1a.off nRw
    have fRw := D1a.nil (X1.trans (Ext.of (sameNew nCa))) nRw
    have D1b := D1a.new nRw (o := .lst [])
    have nCR : Ca ≠ Rw := ne_of_none upd_same nRw
    have x1b := (X1.trans (Ext.of (sameNew (o := .lst []) nCa))).trans (Ext.of (sameNew (o := .lst []) nRw))
    -- capacities
    refine ⟨.int n, rfl, n, rfl, by omega, by omega, for_it (walk_range (lo := 0) (n := (n : Int).toNat))
      (fun j σ H2 => ∃ (y7 : Option V) (t2 : Nat) (ls : List Int), σ = [some (.ref st), some (.int pm), some (.int gm), some (.int top), some (.int n), some (.ref Ca), some (.ref Rw), y7, none, none, none, none, none] ∧ DV H2 st g t2 ∧ t2 ≤ t + 1 + 4 * j ∧ Ext st g H H2 ∧ H2 Rw = some (.lst []) ∧ H2 Ca = some (.lst (ls.map V.int)) ∧ ls.length = j ∧ ∀ x ∈ ls, 1 ≤ x ∧ x ≤ 3 * top)
      ⟨none, t + 1, [], rfl, D1b, by omega, x1b, upd_same, upNew nRw upd_same, rfl, fun x h => by simp at h⟩ (fun _ _ _ _ _ => trivial) ?_ ?_⟩
    · rintro j v σ H2 H3 hltj ⟨y7, t2, ls, rfl, d2, ht2', x2, eR2, eC2, l2, b2⟩ ⟨rfl, rfl⟩
      have hj6 : j < 6 := by omega
      refine ⟨.ref Ca, rfl, .inl ⟨rfl, _, SqL.of eC2⟩, .ref st, rfl, .int top, rfl, .int top, rfl, _, _, rfl, rfl, .inl ⟨by decide, by decide⟩, (show (2 : Nat) ≤ sizeLine by decide), fun Z nZ => ⟨.ref st, rfl, st, g, t2, _, rfl, d2.new nZ, by omega, by decide, by decide, fun H4 d4 h40 h41 D4 X4 => ?_⟩⟩
      obtain ⟨oZ1, oZ2⟩ := d2.off nZ
      have eZ := X4 _ _ upd_same oZ1 oZ2
      have x4 := (x2.trans (Ext.of (sameNew nZ))).trans X4
      have eC4 := X4 _ _ (upNew nZ eC2) oCa.1 oCa.2
      have eR4 := X4 _ _ (upNew nZ eR2) oRw.1 oRw.2
      obtain ⟨tz, htz, htz1, htz2⟩ : ∃ tz : Int, atI [V.int top, V.int (3 * top)] d4 = some (.int tz) ∧ 1 ≤ tz ∧ tz ≤ 3 * top := by
        obtain h | h : d4 = 0 ∨ d4 = 1 := by omega
        · exact ⟨top, by rw [h]; rfl, by omega, by omega⟩
        · exact ⟨3 * top, by rw [h]; rfl, by omega, by omega⟩
      refine ⟨Z, _, _, _, rfl, rfl, SqL.of eZ, htz, st, g, t2 + 1, tz, rfl, D4, by omega, htz1, by omega, fun H5 am t5 ha1 ha2 D5 ht5 X5 => ?_⟩
      have eC5 := X5 _ _ eC4 oCa.1 oCa.2
      refine ⟨Ca, _, _, rfl, rfl, eC5, by rw [List.length_map]; exact small (by omega), _, t5, ls ++ [am], rfl, D5.put oCa.1 oCa.2, by omega, ?_, by rw [upd_ne nCR.symm]; exact X5 _ _ eR4 oRw.1 oRw.2, ?_, by simp [l2], ?_⟩
      · exact fun b o e n1 n2 => by rw [upd_ne (ne_of_none e fCa)]; exact (x4.trans X5) b o e n1 n2
      · rw [upd_same, List.map_append]; rfl
      · intro y hy
        rw [List.mem_append] at hy
        rcases hy with h | h
        · exact b2 y h
        · simp only [List.mem_singleton] at h; omega
    rintro σ H2 ⟨y7, t2, cs, rfl, d2, ht2', x2, eR2, eC2, l2, b2⟩
    have lcs : cs.length = n := by omega
    -- groups
    refine ⟨.ref st, rfl, .int gm, rfl, st, g, t2, _, rfl, d2, by omega, by omega, by omega, fun H3 d3 h30 h31 D3 X3 => ⟨_, _, rfl, rfl, ?_⟩⟩
    have x3 := x2.trans X3
    refine ⟨1 + d3, rfl, by omega, by omega, for_it (walk_range (lo := 0) (n := (1 + d3).toNat))
      (fun i σ H4 => ∃ (z7 z8 z9 z10 z11 z12 : Option V) (t4 : Nat) (vs : List V) (gs : List Gp), σ = [some (.ref st), some (.int pm), some (.int gm), some (.int top), some (.int n), some (.ref Ca), some (.ref Rw), z7, z8, z9, z10, z11, z12] ∧ DV H4 st g t4 ∧ t4 ≤ t2 + 1 + 20 * i ∧ Ext st g H H4 ∧ H4 Ca = some (.lst (cs.map V.int)) ∧
        H4 Rw = some (.lst vs) ∧ DpAll K H4 vs (gs.map dGrp) ∧ gs.length = i ∧ ∀ g ∈ gs, g.1.length ≤ 6 ∧ (∀ p ∈ g.1, 0 ≤ p ∧ p < (n : Int)) ∧ (1 ≤ g.2 ∧ g.2 ≤ top) ∧ g.1.Nodup)
      ⟨_, none, none, none, none, none, t2 + 1, [], [], rfl, D3, by omega, x3, X3 _ _ eC2 oCa.1 oCa.2, X3 _ _ eR2 oRw.1 oRw.2, .nil, rfl, fun g h => by simp at h⟩ (fun _ _ _ _ _ => trivial) ?_ ?_⟩
    · rintro i v σ H4 H4' hlt ⟨z7, z8, z9, z10, z11, z12, t4, vs, gs, rfl, d4, ht4, x4, eC4, eR4, hvs, lgs, bgs⟩ ⟨rfl, rfl⟩
      have hi10 : i < 10 := by omega
      have hvl : vs.length = i := by rw [DpAll.len hvs, List.length_map, lgs]
      refine ⟨.int n, rfl, n, rfl, RgOk.of_le (by omega) (by omega) (by omega) (by omega), fun Nm nNm => ?_⟩
      have oNm := d4.off nNm
      have fNm := d4.nil x4 nNm
      have d5 := d4.new nNm (o := .lst (rgV 0 n))
      have eN5 : (upd H4' Nm (.lst (rgV 0 n))) Nm = some (.lst ((upTo n).map V.int)) := by rw [upd_same, rgV_upTo]
      have eC5 := upNew nNm (o := .lst (rgV 0 n)) eC4
      have eR5 := upNew nNm (o := .lst (rgV 0 n)) eR4
      have x5 := x4.trans (Ext.of (sameNew (o := .lst (rgV 0 n)) nNm))
      have tk5 : TupK H4' (upd H4' Nm (.lst (rgV 0 n))) := TupK.new nNm
      have nCN : Ca ≠ Nm := ne_of_none eC4 nNm
      have nRN : Rw ≠ Nm := ne_of_none eR4 nNm
      generalize upd H4' Nm (.lst (rgV 0 n)) = H5 at d5 eN5 eC5 eR5 x5 tk5
      refine ⟨.int n, rfl, n, rfl, by omega, by omega, fun Ch nCh => lc_it (walk_range (lo := 0) (n := (n : Int).toNat))
        (fun j H7 => ∃ (ns ls : List Int), DV H7 st g (t4 + j) ∧ Ext st g H H7 ∧ TupK H4' H7 ∧ H7 Ca = some (.lst (cs.map V.int)) ∧ H7 Rw = some (.lst vs) ∧ H7 Nm = some (.lst (ns.map V.int)) ∧ ns.length + j = n ∧ (∀ x ∈ ns, 0 ≤ x ∧ x < (n : Int)) ∧
          H7 Ch = some (.lst (ls.map V.int)) ∧ ls.length = j ∧ (∀ x ∈ ls, 0 ≤ x ∧ x < (n : Int)) ∧ (ls ++ ns).Nodup)
        ⟨upTo n, [], d5.new nCh, x5.trans (Ext.of (sameNew nCh)), tk5.trans (TupK.new nCh), upNew nCh eC5, upNew nCh eR5, upNew nCh eN5, upTo_len n, fun x h => upTo_mem h, upd_same, rfl, (fun x h => by simp at h), by simpa using upTo_nodup n⟩ (fun _ _ _ _ => trivial) ?_ ?_⟩
      · rintro j v H7 H8 hltj ⟨ns, ls, d7, x7, tk7, eC7, eR7, eN7, lN7, bN7, eO7, lO7, bO7, hnd⟩ ⟨rfl, rfl⟩
        have oCh := d5.off nCh
        have fCh := d5.nil x5 nCh
        have nNC : Nm ≠ Ch := ne_of_none eN5 nCh
        have nCC : Ca ≠ Ch := ne_of_none eC5 nCh
        have nRC : Rw ≠ Ch := ne_of_none eR5 nCh
        refine ⟨rfl, .ref Nm, rfl, .inl ⟨rfl, _, SqL.of eN7⟩, .ref st, rfl, .ref Nm, rfl, Nm, _, rfl, .inl (SqL.of eN7), st, g, t4 + j, _, rfl, d7, by omega, by rw [List.length_map]; omega, by rw [List.length_map]; omega, fun H9 d9 h90 h91 D9 X9 => ?_⟩
        rw [List.length_map] at h91
        have eN9 := X9 _ _ eN7 oNm.1 oNm.2
        have eO9 := X9 _ _ eO7 oCh.1 oCh.2
        have hk : d9.toNat < ns.length := by omega
        have eOz : (upd H9 Nm (.lst ((ns.map V.int).eraseIdx d9.toNat))) Ch = some (.lst (ls.map V.int)) := by rw [upd_ne nNC.symm]; exact eO9
        refine ⟨Nm, _, d9, d9.toNat, .int ns[d9.toNat], rfl, rfl, eN9, by omega, by omega, seqIndex_of h90 (by rw [List.length_map]; omega), by rw [List.getElem?_map, List.getElem?_eq_getElem hk]; rfl, _, eOz, by rw [List.length_map]; exact small (by omega),
          ns.eraseIdx d9.toNat, ls ++ [ns[d9.toNat]], (D9.put oNm.1 oNm.2).put oCh.1 oCh.2, ?_, ((tk7.trans (d7.tup X9)).trans (TupK.put eN9)).trans (TupK.put eOz), ?_, ?_, ?_, ?_, ?_, ?_, by simp [lO7], ?_, nodup_step hk hnd⟩
        · exact fun b o e n1 n2 => by rw [upd_ne (ne_of_none e fCh), upd_ne (ne_of_none e fNm)]; exact (x7.trans X9) b o e n1 n2
        · rw [upd_ne nCC, upd_ne nCN]; exact X9 _ _ eC7 oCa.1 oCa.2
        · rw [upd_ne nRC, upd_ne nRN]; exact X9 _ _ eR7 oRw.1 oRw.2
        · rw [upd_ne nNC, upd_same, erase_map]
        · rw [List.length_eraseIdx_of_lt hk]; omega
        · exact fun x hx => bN7 x (List.mem_of_mem_eraseIdx hx)
        · rw [upd_same, List.map_append]; rfl
        · intro x hx
          rw [List.mem_append] at hx
          rcases hx with h | h
          · exact bO7 x h
          · simp at h; subst h; exact bN7 _ (List.getElem_mem hk)
      rintro H7 ⟨ns, ls, d7, x7, tk7, eC7, eR7, eN7, lN7, bN7, eO7, lO7, bO7, hnd⟩
      have hnn : (n : Int).toNat = n := by omega
      rw [hnn] at d7 lO7
      have oCh := d5.off nCh
      have hnl : ls.Nodup := (List.nodup_append.mp hnd).1
      -- favorite
      refine ⟨.ref st, rfl, .int n, rfl, _, _, rfl, st, g, t4 + n, _, rfl, d7, by omega, by split <;> omega, by split <;> omega, fun H8 fv h80 h81 D8 X8 => ?_⟩
      have hfv : fv < (n : Int) := by split at h81 <;> omega
      have eO8 := X8 _ _ eO7 oCh.1 oCh.2
      have eC8 := X8 _ _ eC7 oCa.1 oCa.2
      have eR8 := X8 _ _ eR7 oRw.1 oRw.2
      have x8 := x7.trans X8
      have tk8 := tk7.trans (d7.tup X8)
      dsimp only [gName]
      refine seq_with (t := tIfS _ _ _) (fun σ1 H9 => ∃ (Or : Addr) (ord : List Int), σ1 = [some (.ref st), some (.int pm), some (.int gm), some (.int top), some (.int n), some (.ref Ca), some (.ref Rw), z7, some (.int (0 + (i : Nat))), some (.ref Nm), some (.ref Or), some (.int fv), z12] ∧ DV H9 st g (t4 + n + 2) ∧ Ext st g H H9 ∧ TupK H4' H9 ∧ H9 Ca = some (.lst (cs.map V.int)) ∧ H9 Rw = some (.lst vs) ∧ H9 Or = some (.lst (ord.map V.int)) ∧ Or ≠ st ∧ Or ≠ g ∧ (∀ x ∈ ord, 0 ≤ x ∧ x < (n : Int)) ∧ ord.Nodup) ?rest (fun rest => ?main)
      case main =>
        refine ⟨.ref st, rfl, st, g, t4 + n + 1, _, rfl, D8, by omega, by decide, by decide, fun H9 d9 h90 h91 D9 X9 => ⟨_, _, rfl, rfl, _, rfl, ite2 (fun h1 => ?_) (fun h1 => ?_)⟩⟩
        · have eO9 := X9 _ _ eO8 oCh.1 oCh.2
          refine ⟨.int fv, rfl, (show (1 : Nat) ≤ sizeLine by decide), fun p1 n1 => ⟨.ref Ch, rfl, Ch, rfl, ⟨_, SqL.of (upNew n1 eO9)⟩, fun D nD => lc_it (walk_list (K := K) (a := Ch) (xs := ls.map V.int))
            (fun k H10 => Same (upd H9 p1 (.lst [.int fv])) H10 ∧ H10 D = some (.lst (((ls.take k).filter (fun x => decide (x ≠ fv))).map V.int))) ⟨sameNew nD, upd_same⟩ (fun k H10 _ h => SqL.of (h.1 _ _ (upNew n1 eO9))) ?_ ?_⟩⟩
          · rintro k v H10 H11 hltk ⟨s10, e10⟩ ⟨rfl, hv⟩
            have hv' : (ls.map V.int)[k]? = some v := hv
            rw [List.getElem?_map] at hv'
            obtain ⟨z, hz, rfl⟩ := Option.map_eq_some_iff.mp hv'
            rw [List.length_map] at hltk
            refine ⟨rfl, .int z, rfl, .int fv, rfl, rfl, _, rfl, ite2 (fun h1 => ?_) (fun h1 => ?_)⟩
            · have h1 : z ≠ fv := by intro e; rw [e] at h1; simp at h1
              refine ⟨.int z, rfl, _, e10, ?_, samePut s10 nD, ?_⟩
              · rw [List.length_map]; exact small (Nat.le_trans (List.length_filter_le ..) (by rw [List.length_take]; omega))
              · rw [upd_same, take_snoc hz, List.filter_append, List.map_append]; simp [h1]
            · have h1 : z = fv := by
                by_cases e : z = fv
                · exact e
                · exact absurd (by simp [e]) h1
              refine ⟨s10, ?_⟩
              rw [e10, take_snoc hz, List.filter_append]; simp [h1]
          rintro H10 ⟨s10, e10⟩
          rw [List.length_map, List.take_length] at e10
          refine ⟨p1, D, _, _, rfl, rfl, s10 _ _ upd_same, e10, ?_, fun Or nOr => ?_⟩
          · rw [List.length_map]
            have h2 := List.length_filter_le (fun x => decide (x ≠ fv)) ls
            have := small (n := 10) (by omega)
            simp at h2 ⊢
            omega
          have s11 := ((sameNew (o := .lst [.int fv]) n1).trans s10).trans (sameNew (o := .lst ([.int fv] ++ (ls.filter (fun x => decide (x ≠ fv))).map V.int)) nOr)
          have D11 := D9.same s11
          have oOr := (D9.same ((sameNew (o := .lst [.int fv]) n1).trans s10)).off nOr
          refine rest _ _ ⟨Or, fv :: ls.filter (fun x => decide (x ≠ fv)), rfl, D11, (x8.trans X9).trans (Ext.of s11), (tk8.trans (D8.tup X9)).trans (TupK.of s11), s11 _ _ (X9 _ _ eC8 oCa.1 oCa.2), s11 _ _ (X9 _ _ eR8 oRw.1 oRw.2), by rw [upd_same]; rfl, oOr.1, oOr.2, ?_, ?_⟩
          · intro x hx
            rcases List.mem_cons.mp hx with rfl | hx
            · exact ⟨h80, hfv⟩
            · exact bO7 x (List.mem_filter.mp hx).1
          · refine List.nodup_cons.mpr ⟨fun z => ?_, hnl.filter _⟩
            have := (List.mem_filter.mp z).2
            simp at this
        · exact rest _ _ ⟨Ch, ls, rfl, D9, x8.trans X9, tk8.trans (D8.tup X9), X9 _ _ eC8 oCa.1 oCa.2, X9 _ _ eR8 oRw.1 oRw.2, X9 _ _ eO8 oCh.1 oCh.2, oCh.1, oCh.2, bO7, hnl⟩
      case rest =>
      rintro σ1 H9 ⟨Or, ord, rfl, D9, x9, tk9, eC9, eR9, eO9, oO1, oO2, bO, ndO⟩
      -- size
      refine ⟨.int n, rfl, .int n, rfl, _, _, rfl, .ref st, rfl, .int n, rfl, _, _, rfl, rfl, st, g, t4 + n + 2, _, rfl, D9, by omega, by omega, by omega, fun H10 sz h100 h101 D10 X10 => ?_⟩
      refine ⟨(show (3 : Nat) ≤ sizeLine by decide), fun Z nZ => ⟨.ref st, rfl, st, g, t4 + n + 2 + 1, _, rfl, D10.new nZ, by omega, by decide, by decide, fun H11 kk h110 h111 D11 X11 => ?_⟩⟩
      obtain ⟨oZ1, oZ2⟩ := D10.off nZ
      have eZ := X11 _ _ upd_same oZ1 oZ2
      have x911 := (X10.trans (Ext.of (sameNew nZ))).trans X11
      have eC11 := x911 _ _ eC9 oCa.1 oCa.2
      have eR11 := x911 _ _ eR9 oRw.1 oRw.2
      have eO11 := x911 _ _ eO9 oO1 oO2
      have x11 := x9.trans x911
      have tk11 := tk9.trans (D9.tup x911)
      obtain ⟨k, hk, hk6⟩ : ∃ k : Nat, atI [V.int n, V.int (if (2 : Int) < n then 2 else n), V.int sz] kk = some (.int k) ∧ k ≤ 6 := by
        obtain h | h | h : kk = 0 ∨ kk = 1 ∨ kk = 2 := by omega
        · exact ⟨n, by rw [h]; rfl, by omega⟩
        · by_cases h2 : (2 : Int) < n
          · exact ⟨2, by rw [h, if_pos h2]; rfl, by omega⟩
          · exact ⟨n, by rw [h, if_neg h2]; rfl, by omega⟩
        · exact ⟨sz.toNat, by rw [h, show ((sz.toNat : Nat) : Int) = sz by omega]; rfl, by omega⟩
      refine ⟨Z, _, _, _, rfl, rfl, SqL.of eZ, hk, ?_⟩
      -- groups.append
      have hcut : cutV (ord.map V.int) none (some (k : Int)) = (ord.take k).map V.int := by rw [List.map_take]; exact cut_to _ k
      refine ⟨.ref Rw, rfl, .inl ⟨rfl, _, SqL.of eR11⟩, .ref Or, rfl, .int k, rfl, _, rfl, Or, _, rfl, SqL.of eO11, fun W nW => ?_⟩
      rw [hcut]
      refine ⟨W, _, rfl, .inl ⟨SqL.of upd_same, fun Tp nTp => ?_⟩⟩
      have s12 := (sameNew (o := .lst ((ord.take k).map V.int)) nW).trans (sameNew (o := .tup ((ord.take k).map V.int)) nTp)
      refine ⟨.ref st, rfl, .int top, rfl, st, g, t4 + n + 2 + 1 + 1, top, rfl, D11.same s12, by omega, by omega, by omega, fun H13 am t13 ha1 ha2 D13 ht13 X13 => ⟨(show (2 : Nat) ≤ sizeLine by decide), fun Gr nGr => ?_⟩⟩
      have eR13 := X13 _ _ (s12 _ _ eR11) oRw.1 oRw.2
      have eC13 := X13 _ _ (s12 _ _ eC11) oCa.1 oCa.2
      have eF := upNew nGr (o := .tup [.ref Tp, .int am]) eR13
      have tk13 := (tk11.trans (TupK.of s12)).trans ((D11.same s12).tup X13)
      have sT : SqT K H13 Tp ((ord.take k).map V.int) := ((D11.same s12).tup X13).sq (SqT.of upd_same)
      have tkz : TupK H13 (upd (upd H13 Gr (.tup [.ref Tp, .int am])) Rw (.lst (vs ++ [.ref Gr]))) := (TupK.new nGr).trans (TupK.put eF)
      refine ⟨Rw, vs, _, rfl, rfl, eF, by rw [hvl]; exact small (by omega), _, _, _, _, _, _, t13, vs ++ [.ref Gr], gs ++ [(ord.take k, am)], rfl, (D13.new nGr).put oRw.1 oRw.2, by omega, ?_, by rw [upd_ne nCR]; exact upNew nGr eC13, upd_same, ?_, by simp [lgs], ?_⟩
      · exact fun b o e n1 n2 => by rw [upd_ne (ne_of_none e fRw)]; exact (((x11.trans (Ext.of s12)).trans X13).trans (Ext.of (sameNew nGr))) b o e n1 n2
      · rw [List.map_append]
        refine DpAll.snoc ((tk13.trans tkz).dpAll _ _ (to_grps _) hvs) (.tup (SqT.of ?_) (.cons (dI_sq (tkz.sq sT)) (.cons (.int _) .nil)))
        rw [upd_ne (ne_of_none eR13 nGr).symm]
        exact upd_same
      · intro g' hg'
        rw [List.mem_append] at hg'
        rcases hg' with h | h
        · exact bgs g' h
        · simp only [List.mem_singleton] at h
          subst h
          exact ⟨by rw [List.length_take]; omega, fun x hx => bO x (List.mem_of_mem_take hx), ⟨ha1, ha2⟩, (List.take_sublist k ord).nodup ndO⟩
    · rintro σ H4 ⟨z7, z8, z9, z10, z11, z12, t4, vs, gs, rfl, d4, ht4, x4, eC4, eR4, hvs, lgs, bgs⟩
      refine ⟨.ref Ca, rfl, Ca, _, rfl, .inl ⟨SqL.of eC4, fun Ct nCt => ⟨.ref Rw, rfl, Rw, _, rfl, .inl ⟨SqL.of (upNew nCt eR4), fun Gt nGt => ⟨(show (2 : Nat) ≤ sizeLine by decide), fun In nIn => ?_⟩⟩⟩⟩⟩
      have tkz : TupK H4 (upd (upd (upd H4 Ct (.tup (cs.map V.int))) Gt (.tup vs)) In (.tup [.ref Ct, .ref Gt])) := ((TupK.new nCt).trans (TupK.new nGt)).trans (TupK.new nIn)
      refine q _ In t4 cs gs (((d4.new nCt).new nGt).new nIn) (by omega) (((x4.trans (Ext.of (sameNew nCt))).trans (Ext.of (sameNew nGt))).trans (Ext.of (sameNew nIn)))
        (.tup (SqT.of upd_same) (.cons (dI_sq (((TupK.new nGt).trans (TupK.new nIn)).sq (SqT.of upd_same))) (.cons (.tup (SqT.of (upNew nIn upd_same)) (tkz.dpAll _ _ (to_grps _) hvs)) .nil)))
        ⟨by omega, by omega, fun x hx => by have := b2 x hx; omega, by omega, by omega, ?_⟩ (fun g hg => (bgs g hg).2.2.2) (by omega) (fun x hx => (b2 x hx).2) (by omega) (fun g hg => (bgs g hg).2.2.1.2)
      rw [lcs]
      exact fun g hg => ⟨(bgs g hg).1, (bgs g hg).2.1, (bgs g hg).2.2.1.1, by have := (bgs g hg).2.2.1.2; omega⟩
end
end Pv
namespace Pv
open PySem PySem.Spec PyProof.Rows L2
abbrev sSame : Stmt := topS 30
theorem scSame : FnScope ["_law_found_here", "_law_due", "_law_k"] ["_law_found_here", "_law_due"] (defScope sSame) := ⟨rfl, rfl, rfl, by decide +kernel, rfl, by decide +kernel, by decide +kernel⟩
mutual
def plain : PyData → Bool
  | .none | .int _ | .bool _ | .str _ => true
  | .list xs | .tuple xs => decide (xs.length ≤ 1000) && plainAll xs
  | _ => false
def plainAll : List PyData → Bool
  | [] => true
  | x :: xs => plain x && plainAll xs
end
theorem plainAll_at : ∀ {xs : List PyData} {i : Nat} {d : PyData}, plainAll xs = true → xs[i]? = some d → plain d = true
  | [], _, _, _, e => by simp at e
  | x :: xs, 0, d, h, e => by simp [plainAll] at h e; subst e; exact h.1
  | x :: xs, i + 1, d, h, e => by simp [plainAll] at h e; exact plainAll_at h.2 e
theorem depthAll_at : ∀ {xs : List PyData} {i : Nat} {d : PyData}, xs[i]? = some d → d.depth ≤ PyData.depthAll xs
  | [], _, _, e => by simp at e
  | x :: xs, 0, d, e => by simp at e; subst e; simp only [PyData.depthAll]; omega
  | x :: xs, i + 1, d, e => by
    have := depthAll_at (xs := xs) (i := i) (d := d) (by simpa using e)
    simp only [PyData.depthAll]; omega
inductive SeqAs (K : PySem.W.Frag) (H : Hp) (a : Addr) (xs : List V) : String → Prop
  | l : SqL K H a xs → SeqAs K H a xs "list"
  | t : SqT K H a xs → SeqAs K H a xs "tuple"
section
variable {K : PySem.W.Frag} {H H' : Hp} {a : Addr} {xs : List V} {T : String}
theorem SeqAs.same (h : SeqAs K H a xs T) (s : Same H H') : SeqAs K H' a xs T := by
  cases h with
  | l h => exact .l (s.seq h)
  | t h => exact .t ((TupK.of s).sq h)
theorem SeqAs.ty (h : SeqAs K H a xs T) : TyX K H (.ref a) (.type T) := by
  cases h with
  | l h => exact ty_sqL h
  | t h => exact ty_sq h
theorem SeqAs.or (h : SeqAs K H a xs T) : SqL K H a xs ∨ SqT K H a xs := by
  cases h with
  | l h => exact .inl h
  | t h => exact .inr h
theorem SeqAs.ix (h : SeqAs K H a xs T) {j : Nat} {v : V} {Q : VK} (e : xs[j]? = some v) (q : Q v H) : rIx K (.ref a) (.int j) H Q := by
  cases h with
  | l h => exact .inl ⟨a, xs, _, v, rfl, rfl, h, atI_nat e, q⟩
  | t h => exact .inr (.inl ⟨a, xs, _, v, rfl, rfl, h, atI_nat e, q⟩)
theorem SeqAs.kit (h : SeqAs K H a xs T) (S : String) (hS : S = "list" ∨ S = "tuple") : PySem.W.kitOne K (.type T) (.type S) = some (T == S) := by
  cases h <;> rcases hS with rfl | rfl <;> exact kit_ty (by decide +kernel)
theorem SeqAs.kits (h : SeqAs K H a xs T) : PySem.W.kitAny K (.type T) [.type "tuple", .type "list"] = some true := by
  cases h with
  | l h => exact kitAny_cons (kit_ty (b := "tuple") (r := false) (by decide +kernel)) (fun _ => kitAny_cons (kit_ty (b := "list") (r := true) (by decide +kernel)) (fun z => by cases z) (fun _ => rfl)) (fun z => by cases z)
  | t h => exact kitAny_cons (kit_ty (b := "tuple") (r := true) (by decide +kernel)) (fun z => by cases z) (fun _ => rfl)
end
section
variable {P : Program} {w : World} {K : PySem.W.Frag} {mg : Str → Option Value} {base : Heap}
def spS (K : PySem.W.Frag) : Nat → Sp
  | 0 => fun _ _ _ _ => False
  | n + 1 => fun vs H Q _ => ∃ (x y : V) (d : PyData), vs = [x, y] ∧ Dp K H x d ∧ Dp K H y d ∧ plain d = true ∧ d.depth ≤ n ∧ ∀ H', Same H H' → Q (.bl true) H'
mutual
theorem same_dp {H H' : Hp} (s : Same H H') : ∀ {d : PyData} {v : V}, plain d = true → Dp K H v d → Dp K H' v d
  | .none, _, _, h => by cases h; exact .non
  | .int _, _, _, h => by cases h; exact .int _
  | .list xs, _, t, h => by
    simp only [plain, Bool.and_eq_true] at t
    cases h with
    | lst h1 h2 => exact .lst (s.seq h1) (same_dpAll s t.2 h2)
  | .tuple xs, _, t, h => by
    simp only [plain, Bool.and_eq_true] at t
    cases h with
    | tup h1 h2 => exact .tup ((TupK.of s).sq h1) (same_dpAll s t.2 h2)
  | .bool _, _, _, h => by cases h; exact .bl _
  | .str _, _, _, h => by cases h; exact .str _
  | .dict _, _, t, _ => by simp [plain] at t
theorem same_dpAll {H H' : Hp} (s : Same H H') : ∀ {ds : List PyData} {vs : List V}, plainAll ds = true → DpAll K H vs ds → DpAll K H' vs ds
  | [], _, _, h => by cases h; exact .nil
  | d :: ds, _, t, h => by
    simp only [plainAll, Bool.and_eq_true] at t
    cases h with
    | cons h1 h2 => exact .cons (same_dp s t.1 h1) (same_dpAll s t.2 h2)
end
theorem eqv_nil : PyData.eqv (.list []) (.list []) = true := by simp [PyData.eqv, PyData.eqvAll]
set_option maxHeartbeats 4000000 in
theorem ok_same {f : Addr} {fd : FuncData} (F : Fun K "_law_same" "_law_same" sSame f fd) (b : Binds K fd ["_law_found_here", "_law_due"] []) (g : mg "_law_same" = some (.ref f))
    (m_tuple : mg "tuple" = none) (m_list : mg "list" = none) (m_isinstance : mg "isinstance" = none) (m_len : mg "len" = none) (m_range : mg "range" = none) (m_str : mg "str" = none) (m_int : mg "int" = none) (m_bool : mg "bool" = none) :
    ∀ n, FnOk P w K mg base CX0 n f fd ["_law_found_here", "_law_due"] (spS K n)
  | 0 => FnOk.none
  | n + 1 => by
    have G := ok_same F b g m_tuple m_list m_isinstance m_len m_range m_str m_int m_bool n
    refine F.ok scSame (fun vs H Q E h => ?_) (fun cdv A outer s H vs Q E hr h => ?_)
    · obtain ⟨x, y, d, rfl, _⟩ := h; rfl
    · obtain ⟨x, y, d, rfl, hx, hy, hpl, hdp, q⟩ := h
      have hu64 : (A.deeper (envOfC "_law_same" (defScope sSame) s.heap.objs.size f cdv)).units + 64 < cLine := by have := hr.un; omega
      refine ⟨_, pss_cons (ps_if (pt_val (pe_callB call_isiT (by rfl) m_isinstance (by decide +kernel) (pa_cons (pv 1) (pa_cons (pe_tup (pa_cons (pe_bltn (v := .ty "tuple") (by rfl) m_tuple (by decide +kernel) rfl) (pa_cons (pe_bltn (v := .ty "list") (by rfl) m_list (by decide +kernel) rfl) pa_nil))) pa_nil))))
          (pss_cons (ps_if (pt_cmpR op_ne (pe_callB call_isi (by rfl) m_isinstance (by decide +kernel) (pa_cons (pv 0) (pa_cons (pe_bltn (v := .ty "tuple") (by rfl) m_tuple (by decide +kernel) rfl) pa_nil))) (pe_callB call_isi (by rfl) m_isinstance (by decide +kernel) (pa_cons (pv 1) (pa_cons (pe_bltn (v := .ty "tuple") (by rfl) m_tuple (by decide +kernel) rfl) pa_nil))) (nomark _))
            (pss_one (ps_ret (pe_bl))) pss_nil)
          (pss_cons (ps_if (PW.pt (pw_or (pt_cmpR op_ne (pe_callB call_isi (by rfl) m_isinstance (by decide +kernel) (pa_cons (pv 0) (pa_cons (pe_bltn (v := .ty "list") (by rfl) m_list (by decide +kernel) rfl) pa_nil))) (pe_callB call_isi (by rfl) m_isinstance (by decide +kernel) (pa_cons (pv 1) (pa_cons (pe_bltn (v := .ty "list") (by rfl) m_list (by decide +kernel) rfl) pa_nil))) (nomark _)) (pw_or1 (pt_cmpR op_ne (pe_callB call_lenQ (by rfl) m_len PySem.boot_len (pa_cons (pv 0) pa_nil)) (pe_callB call_lenQ (by rfl) m_len PySem.boot_len (pa_cons (pv 1) pa_nil)) (nomark _)))))
            (pss_one (ps_ret (pe_bl))) pss_nil)
          (pss_one (ps_ret (pe_cmpR (op_eqD hu64) (pe_lc (own := [("_law_k", 2)]) (g := gName 2) (tt := tNot (tB (tCall (spS K n) [] E0 (tCons (tOp (rIx K) (tVar 0) (tVar 2)) (tCons (tOp (rIx K) (tVar 1) (tVar 2)) tNil))))) (te := tVar 2) rfl scSame.nd (pi_range1 (by rfl) m_range (pa_cons (pe_callB call_lenQ (by rfl) m_len PySem.boot_len (pa_cons (pv 1) pa_nil)) pa_nil)) (blkOk_by (N := ["_law_found_here", "_law_due", "_law_k"]) (sc := defScope sSame) (by decide +kernel)) (fun _ _ _ _ _ => pg_name (i := 2) scSame.nd rfl (.inl rfl)) (fun _ _ _ _ _ => pts_one (pt_not (pt_val (pe_call G hr (by rfl) g F.kp b .nil pass0 (pa_cons (pe_ix ix_seq (pv 0) (pv 2) (fun _ _ => rfl)) (pa_cons (pe_ix ix_seq (pv 1) (pv 2) (fun _ _ => rfl)) pa_nil)))))) (fun _ _ _ _ _ => pv 2)) (pe_lst (pa_nil)) (nomark _)))))) pss_nil)
        (pss_cons (ps_if (pt_cmp (pc_isN (pv 1)))
          (pss_one (ps_ret (pe_cmp (pc_isN (pv 0))))) pss_nil)
        (pss_cons (ps_if (pt_val (pe_callB call_isi (by rfl) m_isinstance (by decide +kernel) (pa_cons (pv 1) (pa_cons (pe_bltn (v := .ty "str") (by rfl) m_str (by decide +kernel) rfl) pa_nil))))
          (pss_one (ps_ret (pe_and (pe_callB call_isi (by rfl) m_isinstance (by decide +kernel) (pa_cons (pv 0) (pa_cons (pe_bltn (v := .ty "str") (by rfl) m_str (by decide +kernel) rfl) pa_nil))) (pe_one (pe_cmpR op_eq (pv 0) (pv 1) (nomark _)))))) pss_nil)
        (pss_one (ps_ret (pe_and (pe_callB call_isi (by rfl) m_isinstance (by decide +kernel) (pa_cons (pv 0) (pa_cons (pe_bltn (v := .ty "int") (by rfl) m_int (by decide +kernel) rfl) pa_nil))) (pe_and (pe_cmpR op_eq (pe_callB call_isi (by rfl) m_isinstance (by decide +kernel) (pa_cons (pv 0) (pa_cons (pe_bltn (v := .ty "bool") (by rfl) m_bool (by decide +kernel) rfl) pa_nil))) (pe_callB call_isi (by rfl) m_isinstance (by decide +kernel) (pa_cons (pv 1) (pa_cons (pe_bltn (v := .ty "bool") (by rfl) m_bool (by decide +kernel) rfl) pa_nil))) (nomark _)) (pe_one (pe_cmpR op_eq (pv 0) (pv 1) (nomark _))))))))), ?_⟩
      refine ⟨y, rfl, (show (2 : Nat) ≤ sizeLine by decide), fun tp ntp => ?_⟩
      have s1 : Same H (upd H tp (.tup [.ty "tuple", .ty "list"])) := sameNew ntp
      have cls : (∃ (T : String) (a b' : Addr) (xs ys : List V) (ds : List PyData), x = .ref a ∧ y = .ref b' ∧ SeqAs K H a xs T ∧ SeqAs K H b' ys T ∧ DpAll K H xs ds ∧ DpAll K H ys ds ∧ ds.length ≤ 1000 ∧ plainAll ds = true ∧ PyData.depthAll ds + 1 ≤ n) ∨
          (x = .non ∧ y = .non) ∨ (∃ i, x = .int i ∧ y = .int i) ∨ (∃ b, x = .bl b ∧ y = .bl b) ∨ ∃ z, x = .str z ∧ y = .str z := by
        cases d with
        | none => cases hx; cases hy; exact .inr (.inl ⟨rfl, rfl⟩)
        | int i => cases hx; cases hy; exact .inr (.inr (.inl ⟨i, rfl, rfl⟩))
        | list ds =>
          simp only [plain, Bool.and_eq_true, decide_eq_true_eq] at hpl
          simp only [PyData.depth] at hdp
          cases hx with
          | lst h1 h2 => cases hy with
            | lst h3 h4 => exact .inl ⟨"list", _, _, _, _, ds, rfl, rfl, .l h1, .l h3, h2, h4, hpl.1, hpl.2, hdp⟩
        | tuple ds =>
          simp only [plain, Bool.and_eq_true, decide_eq_true_eq] at hpl
          simp only [PyData.depth] at hdp
          cases hx with
          | tup h1 h2 => cases hy with
            | tup h3 h4 => exact .inl ⟨"tuple", _, _, _, _, ds, rfl, rfl, .t h1, .t h3, h2, h4, hpl.1, hpl.2, hdp⟩
        | bool bb => cases hx; cases hy; exact .inr (.inr (.inr (.inl ⟨bb, rfl, rfl⟩)))
        | str z => cases hx; cases hy; exact .inr (.inr (.inr (.inr ⟨z, rfl, rfl⟩)))
        | dict _ => simp [plain] at hpl
      rcases cls with ⟨T, a, b', xs, ys, ds, rfl, rfl, hX, hY, dx, dy, hds, hpa, hda⟩ | ⟨rfl, rfl⟩ | ⟨i, rfl, rfl⟩ | ⟨bb, rfl, rfl⟩ | ⟨z, rfl, rfl⟩
      · have hX1 := hX.same s1
        have hY1 := hY.same s1
        refine ⟨.ref b', tp, _, _, _, true, rfl, upd_same, .cons (.ty _) (.cons (.ty _) .nil), hY1.ty, hY1.kits, true, rfl, iteT ?_⟩
        refine ⟨.ref a, rfl, .ref a, .ty "tuple", _, _, _, rfl, .ty _, hX1.ty, hX1.kit "tuple" (.inr rfl), .ref b', rfl, .ref b', .ty "tuple", _, _, _, rfl, .ty _, hY1.ty, hY1.kit "tuple" (.inr rfl), rfl, _, rfl, iteNS rfl ?_⟩
        refine ⟨.ref a, rfl, .ref a, .ty "list", _, _, _, rfl, .ty _, hX1.ty, hX1.kit "list" (.inl rfl), .ref b', rfl, .ref b', .ty "list", _, _, _, rfl, .ty _, hY1.ty, hY1.kit "list" (.inl rfl), rfl, _, rfl, iteNS rfl ?_⟩
        have lx := DpAll.len dx
        have ly := DpAll.len dy
        refine ⟨.ref a, rfl, a, xs, rfl, hX1.or, .ref b', rfl, b', ys, rfl, hY1.or, rfl, _, rfl, iteNS (by rw [lx, ly]) ?_⟩
        refine ⟨.ref b', rfl, b', ys, rfl, hY1.or, _, rfl, by omega, by omega, fun D nD => lc_it (walk_range (lo := 0) (n := (ys.length : Int).toNat))
          (fun j H2 => Same H H2 ∧ H2 D = some (.lst [])) ⟨s1.trans (sameNew nD), upd_same⟩ (fun _ _ _ _ => trivial) ?_ ?_⟩
        · rintro j v H2 H3 hlt ⟨s2, e2⟩ ⟨rfl, rfl⟩
          have hj : j < ys.length := by omega
          have hj2 : j < xs.length := by omega
          have ex : xs[j]? = some xs[j] := List.getElem?_eq_getElem hj2
          have ey : ys[j]? = some ys[j] := List.getElem?_eq_getElem hj
          obtain ⟨d1, hd1, hx1⟩ := DpAll.at dx ex
          obtain ⟨d2, hd2, hy1⟩ := DpAll.at dy ey
          rw [hd1] at hd2
          cases hd2
          have hpd := plainAll_at hpa hd1
          have hdd := depthAll_at hd1
          obtain ⟨n', rfl⟩ : ∃ n', n = n' + 1 := ⟨n - 1, by omega⟩
          have e0 : (0 : Int) + (j : Nat) = (j : Nat) := by omega
          dsimp only
          rw [e0]
          refine ⟨rfl, .ref a, rfl, .int (j : Nat), rfl, (hX.same s2).ix ex ⟨.ref b', rfl, .int (j : Nat), rfl, (hY.same s2).ix ey ?_⟩⟩
          refine ⟨_, _, d1, rfl, same_dp s2 hpd hx1, same_dp s2 hpd hy1, hpd, by omega, fun H4 s4 => ⟨_, rfl, ?_⟩⟩
          exact ⟨s2.trans s4, s4 _ _ e2⟩
        · rintro H2 ⟨s2, e2⟩
          refine ⟨Nat.zero_le _, fun p np => ⟨.list [], .list [], .lst (SqL.of (upNew np e2)) .nil, .lst (SqL.of upd_same) .nil, by decide, by decide, ?_⟩⟩
          rw [eqv_nil]
          exact q _ (s2.trans (sameNew np))
      · have kn : PySem.W.kitAny K (.type "NoneType") [.type "tuple", .type "list"] = some false :=
          kitAny_cons (kit_ty (b := "tuple") (r := false) (by decide +kernel)) (fun _ => kitAny_cons (kit_ty (b := "list") (r := false) (by decide +kernel)) (fun _ => kitAny_nil) (fun z => by cases z)) (fun z => by cases z)
        refine ⟨.non, tp, _, _, _, false, rfl, upd_same, .cons (.ty _) (.cons (.ty _) .nil), .base .non, kn, false, rfl, iteF ?_⟩
        refine ⟨.non, rfl, _, rfl, iteT ?_⟩
        exact ⟨.non, rfl, q _ s1⟩
      · have kn : PySem.W.kitAny K (.type "int") [.type "tuple", .type "list"] = some false :=
          kitAny_cons (kit_ty (b := "tuple") (r := false) (by decide +kernel)) (fun _ => kitAny_cons (kit_ty (b := "list") (r := false) (by decide +kernel)) (fun _ => kitAny_nil) (fun z => by cases z)) (fun z => by cases z)
        refine ⟨.int i, tp, _, _, _, false, rfl, upd_same, .cons (.ty _) (.cons (.ty _) .nil), .base (.int i), kn, false, rfl, iteF ?_⟩
        refine ⟨.int i, rfl, _, rfl, iteF ?_⟩
        refine ⟨.int i, rfl, .int i, .ty "str", _, _, false, rfl, .ty _, .base (.int i), kit_ty (by decide +kernel), false, rfl, iteF ?_⟩
        refine ⟨.int i, rfl, .int i, .ty "int", _, _, true, rfl, .ty _, .base (.int i), kit_ty (by decide +kernel), true, rfl, iteT ?_⟩
        refine ⟨.int i, rfl, .int i, .ty "bool", _, _, false, rfl, .ty _, .base (.int i), kit_ty (by decide +kernel), .int i, rfl, .int i, .ty "bool", _, _, false, rfl, .ty _, .base (.int i), kit_ty (by decide +kernel), rfl, _, rfl, iteT ?_⟩
        refine ⟨.int i, rfl, .int i, rfl, rfl, ?_⟩
        have := q _ s1
        rw [decide_eq_true rfl]
        exact this
      · have kn : PySem.W.kitAny K (.type "bool") [.type "tuple", .type "list"] = some false :=
          kitAny_cons (kit_ty (b := "tuple") (r := false) (by decide +kernel)) (fun _ => kitAny_cons (kit_ty (b := "list") (r := false) (by decide +kernel)) (fun _ => kitAny_nil) (fun z => by cases z)) (fun z => by cases z)
        refine ⟨.bl bb, tp, _, _, _, false, rfl, upd_same, .cons (.ty _) (.cons (.ty _) .nil), .base (.bl bb), kn, false, rfl, iteF ?_⟩
        refine ⟨.bl bb, rfl, _, rfl, iteF ?_⟩
        refine ⟨.bl bb, rfl, .bl bb, .ty "str", _, _, false, rfl, .ty _, .base (.bl bb), kit_ty (by decide +kernel), false, rfl, iteF ?_⟩
        refine ⟨.bl bb, rfl, .bl bb, .ty "int", _, _, true, rfl, .ty _, .base (.bl bb), kit_ty (by decide +kernel), true, rfl, iteT ?_⟩
        refine ⟨.bl bb, rfl, .bl bb, .ty "bool", _, _, true, rfl, .ty _, .base (.bl bb), kit_ty (by decide +kernel), .bl bb, rfl, .bl bb, .ty "bool", _, _, true, rfl, .ty _, .base (.bl bb), kit_ty (by decide +kernel), rfl, _, rfl, iteT ?_⟩
        refine ⟨.bl bb, rfl, .bl bb, rfl, rfl, ?_⟩
        have := q _ s1
        rw [decide_eq_true rfl]
        exact this
      · have kn : PySem.W.kitAny K (.type "str") [.type "tuple", .type "list"] = some false :=
          kitAny_cons (kit_ty (b := "tuple") (r := false) (by decide +kernel)) (fun _ => kitAny_cons (kit_ty (b := "list") (r := false) (by decide +kernel)) (fun _ => kitAny_nil) (fun z => by cases z)) (fun z => by cases z)
        refine ⟨.str z, tp, _, _, _, false, rfl, upd_same, .cons (.ty _) (.cons (.ty _) .nil), .base (.str z), kn, false, rfl, iteF ?_⟩
        refine ⟨.str z, rfl, _, rfl, iteF ?_⟩
        refine ⟨.str z, rfl, .str z, .ty "str", _, _, true, rfl, .ty _, .base (.str z), kit_ty (by decide +kernel), true, rfl, iteT ?_⟩
        refine ⟨.str z, rfl, .str z, .ty "str", _, _, true, rfl, .ty _, .base (.str z), kit_ty (by decide +kernel), true, rfl, iteT ?_⟩
        refine ⟨.str z, rfl, .str z, rfl, rfl, ?_⟩
        have := q _ s1
        rw [decide_eq_true rfl]
        exact this
end
end Pv
namespace Pv
open PySem PySem.Spec PyProof.Rows L2
abbrev sWhole : Stmt := topS 1
abbrev sWithin : Stmt := topS 2
theorem scWhole : FnScope ["value"] ["value"] (defScope sWhole) := ⟨rfl, rfl, rfl, by decide +kernel, rfl, by decide +kernel, by decide +kernel⟩
theorem scWithin : FnScope ["value", "least", "most"] ["value", "least", "most"] (defScope sWithin) := ⟨rfl, rfl, rfl, by decide +kernel, rfl, by decide +kernel, by decide +kernel⟩
/-! what a value is, by its data -/
section
variable {P : Program} {w : World} {K : PySem.W.Frag} {mg : Str → Option Value} {base : Heap}
def spWhole (K : PySem.W.Frag) : Sp := fun vs H Q _ => ∃ (st r : Addr) (v : V) (d : PyData), vs = [v] ∧ Dq K st r H v d ∧ Q (.bl (wholeD d)) H
theorem ok_whole {f : Addr} {fd : FuncData} {k : Nat} (F : Fun K "is_whole" "is_whole" sWhole f fd) (mi : mg "isinstance" = none) (mint : mg "int" = none) (mb : mg "bool" = none) :
    FnOk P w K mg base CX0 (k + 1) f fd ["value"] (spWhole K) := by
  refine F.ok scWhole (fun vs H Q E h => ?_) (fun cdv A outer s H vs Q E hr h => ?_)
  · obtain ⟨st, r, v, d, rfl, _⟩ := h; rfl
  · obtain ⟨st, r, v, d, rfl, hd, q⟩ := h
    refine ⟨_, pss_one (ps_ret (pe_and (pe_callB call_isi (by rfl) mi (by decide +kernel) (pa_cons (pv 0) (pa_cons (pe_bltn (v := .ty "int") (by rfl) mint (by decide +kernel) rfl) pa_nil)))
      (pe_one (pe_not (pe_callB call_isi (by rfl) mi (by decide +kernel) (pa_cons (pv 0) (pa_cons (pe_bltn (v := .ty "bool") (by rfl) mb (by decide +kernel) rfl) pa_nil))))))), ?_⟩
    refine ⟨v, rfl, v, .ty "int", _, _, _, rfl, .ty _, hd.ty, kit_int d, _, rfl, ite2 (fun h1 => ?_) (fun h1 => ?_)⟩
    · refine ⟨v, rfl, v, .ty "bool", _, _, _, rfl, .ty _, hd.ty, kit_bool d, _, rfl, ?_⟩
      unfold wholeD at q
      rw [h1, Bool.true_and] at q
      exact q
    · unfold wholeD at q
      rw [Bool.eq_false_iff.mpr h1, Bool.false_and] at q
      exact q
def spWithin (K : PySem.W.Frag) : Sp := fun vs H Q _ => ∃ (st r : Addr) (v : V) (d : PyData) (a b : Int), vs = [v, .int a, .int b] ∧ Dq K st r H v d ∧ Q (.bl (withinD a b d)) H
theorem ok_within {f fW : Addr} {fd fdW : FuncData} {k : Nat} (F : Fun K "is_within" "is_within" sWithin f fd) (FW : Fun K "is_whole" "is_whole" sWhole fW fdW) (bW : Binds K fdW ["value"] []) (gW : mg "is_whole" = some (.ref fW))
    (GW : FnOk P w K mg base CX0 1 fW fdW ["value"] (spWhole K)) : FnOk P w K mg base CX0 (1 + k + 1) f fd ["value", "least", "most"] (spWithin K) := by
  refine F.ok scWithin (fun vs H Q E h => ?_) (fun cdv A outer s H vs Q E hr h => ?_)
  · obtain ⟨st, r, v, d, a, b, rfl, _⟩ := h; rfl
  · obtain ⟨st, r, v, d, a, b, rfl, hd, q⟩ := h
    refine ⟨_, pss_one (ps_ret (pe_and (pe_call GW (hr.mono (by omega)) (by rfl) gW FW.kp bW .nil pass0 (pa_cons (pv 0) pa_nil)) (pe_one (pe_chain op_le op_le (pv 1) (pv 0) (pv 2))))), ?_⟩
    refine ⟨v, rfl, st, r, v, d, rfl, hd, _, rfl, ite2 (fun h1 => ?_) (fun h1 => ?_)⟩
    · cases d with
      | int i =>
        cases hd
        refine ⟨.int a, rfl, .int i, rfl, _, _, rfl, rfl, _, rfl, ite2 (fun h2 => ?_) (fun h2 => ?_)⟩
        · refine ⟨.int b, rfl, _, _, rfl, rfl, ?_⟩
          have h2' : a ≤ i := of_decide_eq_true h2
          simpa [withinD, h2'] using q
        · have h2' : ¬ a ≤ i := fun z => h2 (decide_eq_true z)
          simpa [withinD, h2'] using q
      | _ => simp [wholeD, isInt, isBool] at h1
    · cases d with
      | int i => simp [wholeD, isInt, isBool] at h1
      | _ => exact q
def spTupOf (K : PySem.W.Frag) : Sp := fun vs H Q _ => ∃ (st r : Addr) (v : V) (d : PyData) (a b : Int), vs = [v, .int a, .int b] ∧ Dq K st r H v d ∧ Q (.bl (tupOfD a b d)) H
end
end Pv
namespace Pv
open PySem PySem.Spec PyProof.Rows L2
abbrev sOpt : Stmt := topS 10
abbrev sDem : Stmt := topS 11
abbrev sExc : Stmt := topS 12
abbrev sFre : Stmt := topS 13
abbrev sCla : Stmt := topS 14
abbrev sCro : Stmt := topS 15
abbrev sRes : Stmt := topS 16
theorem scOpt : FnScope ["instance", "group", "option", "posts"] ["instance", "group", "option"] (defScope sOpt) := ⟨rfl, rfl, rfl, by decide +kernel, rfl, by decide +kernel, by decide +kernel⟩
theorem scDem : FnScope ["instance", "totals", "posts", "count"] ["instance"] (defScope sDem) := ⟨rfl, rfl, rfl, by decide +kernel, rfl, by decide +kernel, by decide +kernel⟩
theorem scExc : FnScope ["instance", "capacity", "demand"] ["instance"] (defScope sExc) := ⟨rfl, rfl, rfl, by decide +kernel, rfl, by decide +kernel, by decide +kernel⟩
theorem scFre : FnScope ["instance", "capacity", "demand"] ["instance"] (defScope sFre) := ⟨rfl, rfl, rfl, by decide +kernel, rfl, by decide +kernel, by decide +kernel⟩
theorem scCla : FnScope ["instance", "post", "places"] ["instance"] (defScope sCla) := ⟨rfl, rfl, rfl, by decide +kernel, rfl, by decide +kernel, by decide +kernel⟩
theorem scCro : FnScope ["instance", "post", "excess"] ["instance"] (defScope sCro) := ⟨rfl, rfl, rfl, by decide +kernel, rfl, by decide +kernel, by decide +kernel⟩
theorem scRes : FnScope ["instance", "group", "posts", "claimed", "option"] ["instance", "group"] (defScope sRes) := ⟨rfl, rfl, rfl, by decide +kernel, rfl, by decide +kernel, by decide +kernel⟩
/-! the mathematics -/
section
variable {P : Program} {w : World} {K : PySem.W.Frag} {mg : Str → Option Value} {base : Heap}
theorem grp_at {H : Hp} {xs : List V} {gs : List Gp} (h : DpAll K H xs (gs.map dGrp)) {i : Nat} {g : Gp} (hg : gs[i]? = some g) : ∃ a p, xs[i]? = some (.ref a) ∧ SqT K H a [.ref p, .int g.2] ∧ SqT K H p (g.1.map V.int) := by
  have hl := DpAll.len h
  rw [List.length_map] at hl
  have hi : i < xs.length := by rw [hl]; exact (List.getElem?_eq_some_iff.mp hg).1
  obtain ⟨d, hd, hx⟩ := DpAll.at h (List.getElem?_eq_getElem hi)
  rw [List.getElem?_map, hg] at hd
  cases hd
  obtain ⟨a, p, e, h1, h2⟩ := grp_ref hx
  exact ⟨a, p, by rw [List.getElem?_eq_getElem hi, e], h1, h2⟩
def spOpt (K : PySem.W.Frag) : Sp := fun vs H Q _ => ∃ (i : Addr) (gi k : Nat) (cs : List Int) (gs : List Gp) (g : Gp), vs = [.ref i, .int gi, .int k] ∧ Dp K H (.ref i) (dInst cs gs) ∧ gs[gi]? = some g ∧ k ≤ g.1.length ∧ Q (optV g.1 k) H
theorem ok_opt {f : Addr} {fd : FuncData} {k : Nat} (F : Fun K "option_post" "option_post" sOpt f fd) (ml : mg "len" = none) : FnOk P w K mg base CX0 (k + 1) f fd ["instance", "group", "option"] (spOpt K) := by
  refine F.ok scOpt (fun vs H Q E h => ?_) (fun cdv A outer s H vs Q E hr h => ?_)
  · obtain ⟨i, gi, k, cs, gs, g, rfl, _⟩ := h; rfl
  · obtain ⟨i, gi, k, cs, gs, g, rfl, hI, hg, hk, q⟩ := h
    refine ⟨_, pss_cons (ps_set (i := 3) scOpt.nd rfl (.inl rfl) (pe_ix ix_tup (pe_ix ix_tup (pe_ix ix_tup (pv 0) pe_int (fun _ _ => rfl)) (pv 1) (fun _ _ => rfl)) pe_int (fun _ _ => rfl)))
      (pss_cons (ps_if (pt_cmpR op_eq (pv 2) (pe_callB call_len_seq (by rfl) ml PySem.boot_len (pa_cons (pv 3) pa_nil)) (nomark _)) (pss_one (ps_ret pe_non)) pss_nil)
      (pss_one (ps_ret (pe_ix ix_tup (pv 3) (pv 2) (fun _ _ => rfl))))), ?_⟩
    obtain ⟨_, ca, ga, xs, e, hi, hc, hgt, hgs⟩ := inst_open hI
    cases e
    obtain ⟨gA, pA, hx, hG, hP⟩ := grp_at hgs hg
    refine ⟨.ref i, rfl, i, _, 1, .ref ga, rfl, rfl, hi, atI_nat (j := 1) rfl, .int gi, rfl, ga, _, _, _, rfl, rfl, hgt, atI_nat hx, gA, _, 0, .ref pA, rfl, rfl, hG, atI_nat (j := 0) rfl, ?_⟩
    refine ⟨.int k, rfl, .ref pA, rfl, pA, _, rfl, .inr hP, rfl, _, rfl, ite2 (fun h1 => ?_) (fun h1 => ?_)⟩
    · have e : (k : Int) = ((g.1.map V.int).length : Nat) := V.int.inj (of_decide_eq_true h1)
      rw [List.length_map] at e
      have hk2 : k = g.1.length := by omega
      have : optV g.1 k = .non := by unfold optV; rw [List.getElem?_eq_none (by omega)]
      rw [this] at q
      exact q
    · have hk2 : k < g.1.length := by
        rcases Nat.lt_or_eq_of_le hk with h | h
        · exact h
        · exact absurd (decide_eq_true (by rw [h, List.length_map])) h1
      have : optV g.1 k = .int g.1[k] := by unfold optV; rw [List.getElem?_eq_getElem hk2]
      rw [this] at q
      exact ⟨.ref pA, rfl, .int k, rfl, pA, _, _, _, rfl, rfl, hP, atI_nat (by rw [List.getElem?_map, List.getElem?_eq_getElem hk2]; rfl), q⟩
def spVec (K : PySem.W.Frag) (r : List Int → List Gp → List Int) : Sp := fun vs H Q _ => ∃ (i : Addr) (cs : List Int) (gs : List Gp), vs = [.ref i] ∧ Dp K H (.ref i) (dInst cs gs) ∧ InsOk cs gs ∧
  ∀ H' p, Same H H' → Dp K H' (.ref p) (dI (r cs gs)) → Q (.ref p) H'
set_option maxHeartbeats 2000000 in
theorem ok_dem {f : Addr} {fd : FuncData} {k : Nat} (F : Fun K "demands" "demands" sDem f fd) (ml : mg "len" = none) (mt : mg "tuple" = none) : FnOk P w K mg base CX0 (k + 1) f fd ["instance"] (spVec K rDem) := by
  refine F.ok scDem (fun vs H Q E h => ?_) (fun cdv A outer s H vs Q E hr h => ?_)
  · obtain ⟨i, cs, gs, rfl, _⟩ := h; rfl
  · obtain ⟨i, cs, gs, rfl, hI, ok, q⟩ := h
    refine ⟨_, pss_cons (ps_set (i := 1) scDem.nd rfl (.inl rfl) (pe_op op_rep (pe_lst (pa_cons pe_int pa_nil)) (pe_callB call_len_seq (by rfl) ml PySem.boot_len (pa_cons (pe_ix ix_tup (pv 0) pe_int (fun _ _ => rfl)) pa_nil))))
      (pss_cons (ps_for PassesOwn.never rfl (pi_tup (pe_ix ix_tup (pv 0) pe_int (fun _ _ => rfl)))
          (pg_tup rfl (pgs_cons (pg_name (i := 2) scDem.nd rfl (.inl rfl)) (pgs_cons (pg_name (i := 3) scDem.nd rfl (.inl rfl)) pgs_nil)))
          (pss_one (ps_if (pt_cmpR op_gt (pe_callB call_len_seq (by rfl) ml PySem.boot_len (pa_cons (pv 2) pa_nil)) pe_int (nomark _))
            (pss_one (ps_augS (pv 1) (pe_ix ix_tup (pv 2) pe_int (fun _ _ => rfl)) get_list (pv 3) ip_add set_list)) pss_nil)))
      (pss_one (ps_ret (pe_callTy call_tuple_of (by rfl) mt (by decide +kernel) (pa_cons (pv 1) pa_nil))))), ?_⟩
    obtain ⟨_, ca, ga, xs, e, hi, hc, hg, hgs⟩ := inst_open hI
    cases e
    have h6 := ok.c6
    refine ⟨by decide, fun p0 n0 => ⟨.ref i, rfl, i, _, 0, .ref ca, rfl, rfl, (TupK.new n0).sq hi, atI_nat (j := 0) rfl, ca, _, rfl, .inr ((TupK.new n0).sq hc), p0, _, _, rfl, rfl, upd_same, by omega, ?_, ?_, fun L nL => ?_⟩⟩
    · rw [List.length_map]; omega
    · rw [List.length_map]; show 1 * _ ≤ sizeLine; have := small (n := cs.length) (by omega); simp; omega
    have fL : H L = none := freeOf nL
    have s1 : Same H (upd (upd H p0 (.lst [.int 0])) L (.lst (List.replicate ((List.map V.int cs).length : Int).toNat [V.int 0]).flatten)) := samePut (sameNew n0) fL
    refine ⟨.ref i, rfl, i, _, 1, .ref ga, rfl, rfl, (TupK.of s1).sq hi, atI_nat (j := 1) rfl, ga, rfl, ⟨_, (TupK.of s1).sq hg⟩, for_it (walk_tup (K := K) (a := ga) (xs := xs))
      (fun i' σ H2 => ∃ y2 y3, σ = [some (.ref i), some (.ref L), y2, y3] ∧ Same H H2 ∧ H2 L = some (.lst ((demOf cs.length (gs.take i')).map V.int)))
      ⟨none, none, rfl, s1, ?_⟩ ?_ ?_ ?_⟩
    · rw [upd_same, List.length_map, Int.toNat_natCast, zeros_V]; rfl
    · rintro i' σ H2 _ ⟨y2, y3, rfl, s2, e2⟩
      exact (TupK.of s2).sq hg
    · rintro i' v σ H2 H3 hlt ⟨y2, y3, rfl, s2, e2⟩ ⟨rfl, hx⟩
      obtain ⟨d, hd, hxd⟩ := DpAll.at hgs hx
      rw [List.getElem?_map] at hd
      obtain ⟨g, hgi, rfl⟩ := Option.map_eq_some_iff.mp hd
      obtain ⟨gA, pA, rfl, hG, hP⟩ := grp_ref hxd
      have tk := TupK.of s2
      have hsn := demOf_snoc (n := cs.length) hgi
      have hgp := (ok.gp g (List.mem_of_getElem? hgi)).2.1
      have hdl := demOf_len cs.length (gs.take i')
      generalize hcur : demOf cs.length (gs.take i') = cur at e2 hsn hdl
      refine ⟨gA, _, rfl, tk.sq hG, rfl, _, _, rfl, _, _, rfl, rfl, ?_⟩
      refine ⟨.ref pA, rfl, pA, _, rfl, .inr (tk.sq hP), _, _, rfl, rfl, _, rfl, ite2 (fun h1 => ?_) (fun h1 => ?_)⟩
      · obtain ⟨pp, ps, hps⟩ : ∃ pp ps, g.1 = pp :: ps := by
          cases hgg : g.1 with
          | nil => rw [hgg] at h1; exact absurd (of_decide_eq_true h1) (by simp)
          | cons a b => exact ⟨a, b, rfl⟩
        have hpr := hgp pp (by rw [hps]; simp)
        obtain ⟨pn, rfl⟩ : ∃ pn : Nat, pp = pn := ⟨pp.toNat, by omega⟩
        have hpl : pn < cur.length := by omega
        refine ⟨.ref L, rfl, .ref pA, rfl, pA, _, 0, .int pn, rfl, rfl, tk.sq hP, atI_nat (j := 0) (by rw [hps]; rfl), L, _, pn, .int cur[pn], rfl, rfl, SqL.of e2, by rw [List.getElem?_map, List.getElem?_eq_getElem hpl]; rfl, .int g.2, rfl, _, _, rfl, rfl, L, _, _, pn, rfl, rfl, e2, ixN_nat (by rw [List.length_map]; exact hpl), ?_⟩
        refine ⟨_, _, rfl, samePut s2 fL, ?_⟩
        rw [upd_same, hsn]
        unfold dAdd
        rw [hps]
        show _ = some (HO.lst ((addAt cur pn g.2).map V.int))
        unfold addAt
        rw [Int.toNat_natCast, List.getD_eq_getElem?_getD, List.getElem?_eq_getElem hpl, List.map_set]
        rfl
      · have hge : g.1 = [] := by
          cases hgg : g.1 with
          | nil => rfl
          | cons a b => rw [hgg] at h1; exact absurd (decide_eq_true (by simp)) h1
        refine ⟨_, _, rfl, s2, ?_⟩
        rw [e2, hsn]
        unfold dAdd
        rw [hge]
    · rintro σ H2 ⟨y2, y3, rfl, s2, e2⟩
      rw [DpAll.len hgs, List.length_map, List.take_length] at e2
      exact ⟨.ref L, rfl, L, _, rfl, .inl ⟨SqL.of e2, fun p np => q _ _ (s2.trans (sameNew np)) (dI_sq (SqT.of upd_same))⟩⟩
end
end Pv
namespace Pv
open PySem PySem.Spec PyProof.Rows L2
section
variable {P : Program} {w : World} {K : PySem.W.Frag} {mg : Str → Option Value} {base : Heap}
theorem ok_exc {f fM : Addr} {fd fdM : FuncData} {k : Nat} (F : Fun K "excesses" "excesses" sExc f fd)
    (FM : Fun K "demands" "demands" sDem fM fdM) (bM : Binds K fdM ["instance"] []) (gM : mg "demands" = some (.ref fM)) (GM : FnOk P w K mg base CX0 1 fM fdM ["instance"] (spVec K rDem))
    (mt : mg "tuple" = none) (mz : mg "zip" = none) (mm : mg "max" = none) : FnOk P w K mg base CX0 (1 + k + 1) f fd ["instance"] (spVec K rExc) := by
  refine F.ok scExc (fun vs H Q E h => ?_) (fun cdv A outer s H vs Q E hr h => ?_)
  · obtain ⟨i, cs, gs, rfl, _⟩ := h; rfl
  · obtain ⟨i, cs, gs, rfl, hI, ok, q⟩ := h
    refine ⟨_, pss_one (ps_ret (pe_callTy call_tuple_of (by rfl) mt (by decide +kernel) (pa_cons
        (pe_lc (own := [("capacity", 1), ("demand", 2)]) (g := gTup K 2 (gCons (gName 1) (gCons (gName 2) gNil))) (tt := tYes) rfl scExc.nd
          (RZ.pi_zipA (by rfl) mz (pa_cons (pe_ix ix_tup (pv 0) pe_int (fun _ _ => rfl)) (pa_cons (pe_call GM (hr.mono (by omega)) (by rfl) gM FM.kp bM .nil pass0 (pa_cons (pv 0) pa_nil)) pa_nil))) (blkOk_by (N := ["instance", "capacity", "demand"]) (sc := defScope sExc) (by decide +kernel))
          (fun _ _ _ _ _ => pg_tup rfl (pgs_cons (pg_name (i := 1) scExc.nd rfl (.inl rfl)) (pgs_cons (pg_name (i := 2) scExc.nd rfl (.inl rfl)) pgs_nil))) (fun _ _ _ _ _ => pts_nil)
          (fun _ _ _ _ _ => pe_callB (call_max2 rfl) (by rfl) mm (by decide +kernel) (pa_cons pe_int (pa_cons (pe_op op_sub (pv 2) (pv 1)) pa_nil)))) pa_nil))), ?_⟩
    obtain ⟨_, ca, ga, xs, e, hi, hc, hg, hgs⟩ := inst_open hI
    cases e
    have h6 := ok.c6
    refine ⟨.ref i, rfl, i, _, 0, .ref ca, rfl, rfl, hi, atI_nat (j := 0) rfl, .ref i, rfl, i, cs, gs, rfl, hI, ok, fun H1 dm s1 hdm => ?_⟩
    have hD := sq_dI hdm
    have hc1 := (TupK.of s1).sq hc
    refine ⟨ca, dm, _, _, rfl, .inr ⟨hc1, hD, fun D nD => lc_it (walk_zipT (K := K) (a := ca) (b := dm) (xs := cs.map V.int) (ys := (rDem cs gs).map V.int) rfl)
      (fun j H2 => Same H1 H2 ∧ H2 D = some (.lst ((((cs.take j).zip ((rDem cs gs).take j)).map (fun q => mx (q.2 - q.1))).map V.int))) ⟨sameNew nD, upd_same⟩ (fun j H2 _ h2 => ⟨(TupK.of h2.1).sq hc1, (TupK.of h2.1).sq hD⟩) ?_ ?_⟩⟩
    · rintro j v H2 H3 hlt ⟨s2, e2⟩ ⟨T, x, y, rfl, nT, rfl, hx, hy⟩
      have hx' : (cs.map V.int)[j]? = some x := hx
      have hy' : ((rDem cs gs).map V.int)[j]? = some y := hy
      rw [List.getElem?_map] at hx' hy'
      obtain ⟨c, hcj, rfl⟩ := Option.map_eq_some_iff.mp hx'
      obtain ⟨d, hdj, rfl⟩ := Option.map_eq_some_iff.mp hy'
      have hjl : j < cs.length := (List.getElem?_eq_some_iff.mp hcj).1
      refine ⟨T, _, rfl, SqT.of upd_same, rfl, _, _, rfl, _, _, rfl, rfl, rfl, .int d, rfl, .int c, rfl, _, _, rfl, rfl, _, _, rfl, _, upNew nT e2, ?_, samePut (s2.trans (sameNew nT)) nD, ?_⟩
      · rw [List.length_map, List.length_map, List.length_zip, List.length_take, List.length_take]; exact small (by omega)
      · rw [upd_same, zip_snoc hcj hdj, List.map_append, List.map_append]; rfl
    · rintro H2 ⟨s2, e2⟩
      rw [List.length_map, List.length_map, zip_take, List.take_of_length_le (by rw [List.length_zip]; exact Nat.le_refl _)] at e2
      exact ⟨D, _, rfl, .inl ⟨SqL.of e2, fun p np => q _ _ ((s1.trans s2).trans (sameNew np)) (dI_sq (SqT.of upd_same))⟩⟩
theorem ok_fre {f fM : Addr} {fd fdM : FuncData} {k : Nat} (F : Fun K "free_places" "free_places" sFre f fd)
    (FM : Fun K "demands" "demands" sDem fM fdM) (bM : Binds K fdM ["instance"] []) (gM : mg "demands" = some (.ref fM)) (GM : FnOk P w K mg base CX0 1 fM fdM ["instance"] (spVec K rDem))
    (mt : mg "tuple" = none) (mz : mg "zip" = none) (mm : mg "max" = none) : FnOk P w K mg base CX0 (1 + k + 1) f fd ["instance"] (spVec K rFre) := by
  refine F.ok scFre (fun vs H Q E h => ?_) (fun cdv A outer s H vs Q E hr h => ?_)
  · obtain ⟨i, cs, gs, rfl, _⟩ := h; rfl
  · obtain ⟨i, cs, gs, rfl, hI, ok, q⟩ := h
    refine ⟨_, pss_one (ps_ret (pe_callTy call_tuple_of (by rfl) mt (by decide +kernel) (pa_cons
        (pe_lc (own := [("capacity", 1), ("demand", 2)]) (g := gTup K 2 (gCons (gName 1) (gCons (gName 2) gNil))) (tt := tYes) rfl scFre.nd
          (RZ.pi_zipA (by rfl) mz (pa_cons (pe_ix ix_tup (pv 0) pe_int (fun _ _ => rfl)) (pa_cons (pe_call GM (hr.mono (by omega)) (by rfl) gM FM.kp bM .nil pass0 (pa_cons (pv 0) pa_nil)) pa_nil))) (blkOk_by (N := ["instance", "capacity", "demand"]) (sc := defScope sFre) (by decide +kernel))
          (fun _ _ _ _ _ => pg_tup rfl (pgs_cons (pg_name (i := 1) scFre.nd rfl (.inl rfl)) (pgs_cons (pg_name (i := 2) scFre.nd rfl (.inl rfl)) pgs_nil))) (fun _ _ _ _ _ => pts_nil)
          (fun _ _ _ _ _ => pe_callB (call_max2 rfl) (by rfl) mm (by decide +kernel) (pa_cons pe_int (pa_cons (pe_op op_sub (pv 1) (pv 2)) pa_nil)))) pa_nil))), ?_⟩
    obtain ⟨_, ca, ga, xs, e, hi, hc, hg, hgs⟩ := inst_open hI
    cases e
    have h6 := ok.c6
    refine ⟨.ref i, rfl, i, _, 0, .ref ca, rfl, rfl, hi, atI_nat (j := 0) rfl, .ref i, rfl, i, cs, gs, rfl, hI, ok, fun H1 dm s1 hdm => ?_⟩
    have hD := sq_dI hdm
    have hc1 := (TupK.of s1).sq hc
    refine ⟨ca, dm, _, _, rfl, .inr ⟨hc1, hD, fun D nD => lc_it (walk_zipT (K := K) (a := ca) (b := dm) (xs := cs.map V.int) (ys := (rDem cs gs).map V.int) rfl)
      (fun j H2 => Same H1 H2 ∧ H2 D = some (.lst ((((cs.take j).zip ((rDem cs gs).take j)).map (fun q => mx (q.1 - q.2))).map V.int))) ⟨sameNew nD, upd_same⟩ (fun j H2 _ h2 => ⟨(TupK.of h2.1).sq hc1, (TupK.of h2.1).sq hD⟩) ?_ ?_⟩⟩
    · rintro j v H2 H3 hlt ⟨s2, e2⟩ ⟨T, x, y, rfl, nT, rfl, hx, hy⟩
      have hx' : (cs.map V.int)[j]? = some x := hx
      have hy' : ((rDem cs gs).map V.int)[j]? = some y := hy
      rw [List.getElem?_map] at hx' hy'
      obtain ⟨c, hcj, rfl⟩ := Option.map_eq_some_iff.mp hx'
      obtain ⟨d, hdj, rfl⟩ := Option.map_eq_some_iff.mp hy'
      have hjl : j < cs.length := (List.getElem?_eq_some_iff.mp hcj).1
      refine ⟨T, _, rfl, SqT.of upd_same, rfl, _, _, rfl, _, _, rfl, rfl, rfl, .int c, rfl, .int d, rfl, _, _, rfl, rfl, _, _, rfl, _, upNew nT e2, ?_, samePut (s2.trans (sameNew nT)) nD, ?_⟩
      · rw [List.length_map, List.length_map, List.length_zip, List.length_take, List.length_take]; exact small (by omega)
      · rw [upd_same, zip_snoc hcj hdj, List.map_append, List.map_append]; rfl
    · rintro H2 ⟨s2, e2⟩
      rw [List.length_map, List.length_map, zip_take, List.take_of_length_le (by rw [List.length_zip]; exact Nat.le_refl _)] at e2
      exact ⟨D, _, rfl, .inl ⟨SqL.of e2, fun p np => q _ _ ((s1.trans s2).trans (sameNew np)) (dI_sq (SqT.of upd_same))⟩⟩
theorem ok_cla {f fM : Addr} {fd fdM : FuncData} {k : Nat} (F : Fun K "claimed_posts" "claimed_posts" sCla f fd)
    (FM : Fun K "free_places" "free_places" sFre fM fdM) (bM : Binds K fdM ["instance"] []) (gM : mg "free_places" = some (.ref fM)) (GM : FnOk P w K mg base CX0 2 fM fdM ["instance"] (spVec K rFre))
    (mt : mg "tuple" = none) (me : mg "enumerate" = none) : FnOk P w K mg base CX0 (2 + k + 1) f fd ["instance"] (spVec K rCla) := by
  refine F.ok scCla (fun vs H Q E h => ?_) (fun cdv A outer s H vs Q E hr h => ?_)
  · obtain ⟨i, cs, gs, rfl, _⟩ := h; rfl
  · obtain ⟨i, cs, gs, rfl, hI, ok, q⟩ := h
    refine ⟨_, pss_one (ps_ret (pe_callTy call_tuple_of (by rfl) mt (by decide +kernel) (pa_cons
        (pe_lc (own := [("post", 1), ("places", 2)]) (g := gTup K 2 (gCons (gName 1) (gCons (gName 2) gNil))) (tt := tTest (tOp rEq (tVar 2) (tC (.int 0)))) (te := tVar 1) rfl scCla.nd
          (pi_enumT (by rfl) me (pa_cons (pe_call GM (hr.mono (by omega)) (by rfl) gM FM.kp bM .nil pass0 (pa_cons (pv 0) pa_nil)) pa_nil)) (blkOk_by (N := ["instance", "post", "places"]) (sc := defScope sCla) (by decide +kernel))
          (fun _ _ _ _ _ => pg_tup rfl (pgs_cons (pg_name (i := 1) scCla.nd rfl (.inl rfl)) (pgs_cons (pg_name (i := 2) scCla.nd rfl (.inl rfl)) pgs_nil)))
          (fun _ _ _ _ _ => pts_one (pt_cmpR op_eq (pv 2) pe_int (nomark _)))
          (fun _ _ _ _ _ => pv 1)) pa_nil))), ?_⟩
    have h6 := ok.c6
    refine ⟨.ref i, rfl, i, cs, gs, rfl, hI, ok, fun H1 dm s1 hdm => ?_⟩
    have hD := sq_dI hdm
    refine ⟨dm, _, rfl, hD, fun D nD => lc_it (walk_enumT (K := K) (a := dm) (xs := (rFre cs gs).map V.int))
      (fun j H2 => Same H1 H2 ∧ H2 D = some (.lst ((sel (fun x => decide (x = 0)) (rFre cs gs) j).map V.int))) ⟨sameNew nD, upd_same⟩ (fun j H2 _ h2 => (TupK.of h2.1).sq hD) ?_ ?_⟩
    · rintro j v H2 H3 hlt ⟨s2, e2⟩ ⟨T, x, y, rfl, nT, rfl, hx, hy⟩
      have hx' : some (V.int (j : Nat)) = some x := hx
      cases hx'
      have hy' : ((rFre cs gs).map V.int)[j]? = some y := hy
      rw [List.getElem?_map] at hy'
      obtain ⟨d, hdj, rfl⟩ := Option.map_eq_some_iff.mp hy'
      have hjl : j < cs.length := by have := (List.getElem?_eq_some_iff.mp hdj).1; rw [rFre_len] at this; exact this
      have hs := sel_succ (fun x => decide (x = 0)) (rFre cs gs) hdj
      have e3 := upNew (o := .tup [.int (j : Nat), .int d]) nT e2
      have s3 := s2.trans (sameNew (o := .tup [.int (j : Nat), .int d]) nT)
      refine ⟨T, _, rfl, SqT.of upd_same, rfl, _, _, rfl, _, _, rfl, rfl, rfl, .int d, rfl, rfl, _, rfl, ite2 (fun h1 => ?_) (fun h1 => ?_)⟩
      · have h0 : d = 0 := V.int.inj (of_decide_eq_true h1)
        refine ⟨.int (j : Nat), rfl, _, e3, ?_, samePut s3 nD, ?_⟩
        · rw [List.length_map]; exact small (Nat.le_trans (sel_len ..) (by omega))
        · rw [upd_same, hs, h0, List.map_append]; rfl
      · have h0 : d ≠ 0 := fun z => h1 (decide_eq_true (by rw [z]))
        refine ⟨s3, ?_⟩
        rw [e3, hs, if_neg (by simpa using h0), List.append_nil]
    · rintro H2 ⟨s2, e2⟩
      rw [List.length_map, rFre_len] at e2
      exact ⟨D, _, rfl, .inl ⟨SqL.of e2, fun p np => q _ _ ((s1.trans s2).trans (sameNew np)) (dI_sq (SqT.of upd_same))⟩⟩
theorem ok_cro {f fM : Addr} {fd fdM : FuncData} {k : Nat} (F : Fun K "crowded_posts" "crowded_posts" sCro f fd)
    (FM : Fun K "excesses" "excesses" sExc fM fdM) (bM : Binds K fdM ["instance"] []) (gM : mg "excesses" = some (.ref fM)) (GM : FnOk P w K mg base CX0 2 fM fdM ["instance"] (spVec K rExc))
    (mt : mg "tuple" = none) (me : mg "enumerate" = none) : FnOk P w K mg base CX0 (2 + k + 1) f fd ["instance"] (spVec K rCro) := by
  refine F.ok scCro (fun vs H Q E h => ?_) (fun cdv A outer s H vs Q E hr h => ?_)
  · obtain ⟨i, cs, gs, rfl, _⟩ := h; rfl
  · obtain ⟨i, cs, gs, rfl, hI, ok, q⟩ := h
    refine ⟨_, pss_one (ps_ret (pe_callTy call_tuple_of (by rfl) mt (by decide +kernel) (pa_cons
        (pe_lc (own := [("post", 1), ("excess", 2)]) (g := gTup K 2 (gCons (gName 1) (gCons (gName 2) gNil))) (tt := tTest (tOp (rI0 fun i j => .bl (decide (j < i))) (tVar 2) (tC (.int 0)))) (te := tVar 1) rfl scCro.nd
          (pi_enumT (by rfl) me (pa_cons (pe_call GM (hr.mono (by omega)) (by rfl) gM FM.kp bM .nil pass0 (pa_cons (pv 0) pa_nil)) pa_nil)) (blkOk_by (N := ["instance", "post", "excess"]) (sc := defScope sCro) (by decide +kernel))
          (fun _ _ _ _ _ => pg_tup rfl (pgs_cons (pg_name (i := 1) scCro.nd rfl (.inl rfl)) (pgs_cons (pg_name (i := 2) scCro.nd rfl (.inl rfl)) pgs_nil)))
          (fun _ _ _ _ _ => pts_one (pt_cmpR op_gt (pv 2) pe_int (nomark _)))
          (fun _ _ _ _ _ => pv 1)) pa_nil))), ?_⟩
    have h6 := ok.c6
    refine ⟨.ref i, rfl, i, cs, gs, rfl, hI, ok, fun H1 dm s1 hdm => ?_⟩
    have hD := sq_dI hdm
    refine ⟨dm, _, rfl, hD, fun D nD => lc_it (walk_enumT (K := K) (a := dm) (xs := (rExc cs gs).map V.int))
      (fun j H2 => Same H1 H2 ∧ H2 D = some (.lst ((sel (fun x => decide (0 < x)) (rExc cs gs) j).map V.int))) ⟨sameNew nD, upd_same⟩ (fun j H2 _ h2 => (TupK.of h2.1).sq hD) ?_ ?_⟩
    · rintro j v H2 H3 hlt ⟨s2, e2⟩ ⟨T, x, y, rfl, nT, rfl, hx, hy⟩
      have hx' : some (V.int (j : Nat)) = some x := hx
      cases hx'
      have hy' : ((rExc cs gs).map V.int)[j]? = some y := hy
      rw [List.getElem?_map] at hy'
      obtain ⟨d, hdj, rfl⟩ := Option.map_eq_some_iff.mp hy'
      have hjl : j < cs.length := by have := (List.getElem?_eq_some_iff.mp hdj).1; rw [rExc_len] at this; exact this
      have hs := sel_succ (fun x => decide (0 < x)) (rExc cs gs) hdj
      have e3 := upNew (o := .tup [.int (j : Nat), .int d]) nT e2
      have s3 := s2.trans (sameNew (o := .tup [.int (j : Nat), .int d]) nT)
      refine ⟨T, _, rfl, SqT.of upd_same, rfl, _, _, rfl, _, _, rfl, rfl, rfl, .int d, rfl, _, _, rfl, rfl, _, rfl, ite2 (fun h1 => ?_) (fun h1 => ?_)⟩
      · have h0 : 0 < d := of_decide_eq_true h1
        refine ⟨.int (j : Nat), rfl, _, e3, ?_, samePut s3 nD, ?_⟩
        · rw [List.length_map]; exact small (Nat.le_trans (sel_len ..) (by omega))
        · rw [upd_same, hs, if_pos (by simpa using h0), List.map_append]; rfl
      · have h0 : ¬ 0 < d := fun z => h1 (decide_eq_true z)
        refine ⟨s3, ?_⟩
        rw [e3, hs, if_neg (by simpa using h0), List.append_nil]
    · rintro H2 ⟨s2, e2⟩
      rw [List.length_map, rExc_len] at e2
      exact ⟨D, _, rfl, .inl ⟨SqL.of e2, fun p np => q _ _ ((s1.trans s2).trans (sameNew np)) (dI_sq (SqT.of upd_same))⟩⟩
def spRes (K : PySem.W.Frag) : Sp := fun vs H Q _ => ∃ (i : Addr) (gi : Nat) (cs : List Int) (gs : List Gp) (g : Gp), vs = [.ref i, .int gi] ∧ Dp K H (.ref i) (dInst cs gs) ∧ InsOk cs gs ∧ gs[gi]? = some g ∧
  ∀ H', Same H H' → Q (.int (resOf g.1 (rCla cs gs))) H'
theorem ok_res {f fM : Addr} {fd fdM : FuncData} {k : Nat} (F : Fun K "reserve_option" "reserve_option" sRes f fd)
    (FM : Fun K "claimed_posts" "claimed_posts" sCla fM fdM) (bM : Binds K fdM ["instance"] []) (gM : mg "claimed_posts" = some (.ref fM)) (GM : FnOk P w K mg base CX0 3 fM fdM ["instance"] (spVec K rCla))
    (mr : mg "range" = none) (ml : mg "len" = none) : FnOk P w K mg base CX0 (3 + k + 1) f fd ["instance", "group"] (spRes K) := by
  refine F.ok scRes (fun vs H Q E h => ?_) (fun cdv A outer s H vs Q E hr h => ?_)
  · obtain ⟨i, gi, cs, gs, g, rfl, _⟩ := h; rfl
  · obtain ⟨i, gi, cs, gs, g, rfl, hI, ok, hg, q⟩ := h
    refine ⟨_, pss_cons (ps_set (i := 2) scRes.nd rfl (.inl rfl) (pe_ix ix_tup (pe_ix ix_tup (pe_ix ix_tup (pv 0) pe_int (fun _ _ => rfl)) (pv 1) (fun _ _ => rfl)) pe_int (fun _ _ => rfl)))
      (pss_cons (ps_set (i := 3) scRes.nd rfl (.inl rfl) (pe_call GM (hr.mono (by omega)) (by rfl) gM FM.kp bM .nil pass0 (pa_cons (pv 0) pa_nil)))
      (pss_cons (ps_for PassesOwn.never rfl (pi_range2 (by rfl) mr (pa_cons pe_int (pa_cons (pe_callB call_len_seq (by rfl) ml PySem.boot_len (pa_cons (pv 2) pa_nil)) pa_nil))) (pg_name (i := 4) scRes.nd rfl (.inl rfl))
        (pss_one (ps_if (pt_cmpR op_notIn_seq (pe_ix ix_tup (pv 2) (pv 4) (fun _ _ => rfl)) (pv 3) rfl) (pss_one (ps_ret (pv 4))) pss_nil)))
      (pss_one (ps_ret (pe_callB call_len_seq (by rfl) ml PySem.boot_len (pa_cons (pv 2) pa_nil)))))), ?_⟩
    obtain ⟨_, ca, ga, xs, e, hi, hc, hgt, hgs⟩ := inst_open hI
    cases e
    obtain ⟨gA, pA, hx, hG, hP⟩ := grp_at hgs hg
    have hgl := (ok.gp g (List.mem_of_getElem? hg)).1
    refine ⟨.ref i, rfl, i, _, 1, .ref ga, rfl, rfl, hi, atI_nat (j := 1) rfl, .int gi, rfl, ga, _, _, _, rfl, rfl, hgt, atI_nat hx, gA, _, 0, .ref pA, rfl, rfl, hG, atI_nat (j := 0) rfl, ?_⟩
    refine ⟨.ref i, rfl, i, cs, gs, rfl, hI, ok, fun H1 cl s1 hcl => ?_⟩
    have hC := sq_dI hcl
    have hP1 := (TupK.of s1).sq hP
    refine ⟨.ref pA, rfl, pA, _, rfl, .inr hP1, 1, _, rfl, ⟨by omega, by omega, by omega, by rw [List.length_map]; omega⟩, for_it (walk_range (lo := 1) (n := (((List.map V.int g.1).length : Int) - 1).toNat))
      (fun j σ H2 => ∃ y4, σ = [some (.ref i), some (.int gi), some (.ref pA), some (.ref cl), y4] ∧ H2 = H1 ∧ ∀ k, 1 ≤ k → k < 1 + j → isFree g.1 (rCla cs gs) k = false)
      ⟨none, rfl, rfl, fun k h1 h2 => by omega⟩ (fun _ _ _ _ _ => trivial) ?_ ?_⟩
    · rintro j v σ H2 H3 hlt ⟨y4, rfl, rfl, hno⟩ ⟨rfl, rfl⟩
      rw [List.length_map] at hlt
      have hj1 : 1 + j < g.1.length := by omega
      have e1 : (1 : Int) + (j : Nat) = ((1 + j : Nat) : Int) := by omega
      have hpv : (g.1.map V.int)[1 + j]? = some (.int g.1[1 + j]) := by rw [List.getElem?_map, List.getElem?_eq_getElem hj1]; rfl
      dsimp only
      rw [e1]
      refine ⟨.ref pA, rfl, .int ((1 + j : Nat) : Int), rfl, pA, _, _, _, rfl, rfl, hP1, atI_nat hpv, .ref cl, rfl, cl, _, rfl, .inr hC, rfl, flat_ints _, _, rfl, ?_⟩
      have hfr : isFree g.1 (rCla cs gs) (1 + j) = !(inV (.int g.1[1 + j]) ((rCla cs gs).map V.int)) := by
        unfold isFree
        rw [inV_ints, List.getD_eq_getElem?_getD, List.getElem?_eq_getElem hj1]; rfl
      refine ite2 (fun h1 => ?_) (fun h1 => ?_)
      · have hf : isFree g.1 (rCla cs gs) (1 + j) = true := by rw [hfr]; exact h1
        have hr : resOf g.1 (rCla cs gs) = 1 + j := by
          unfold resOf
          have : (List.range' 1 (g.1.length - 1)).find? (isFree g.1 (rCla cs gs)) = some (1 + j) := by
            rw [List.find?_range'_eq_some]
            refine ⟨hf, by rw [List.mem_range'_1]; omega, fun k h1 h2 => by rw [hno k h1 h2]; rfl⟩
          rw [this]; rfl
        have := q _ s1
        rw [hr] at this
        exact ⟨_, rfl, this⟩
      · have hf : isFree g.1 (rCla cs gs) (1 + j) = false := by rw [hfr]; exact Bool.eq_false_iff.mpr h1
        refine ⟨_, rfl, rfl, fun k h1 h2 => ?_⟩
        rcases Nat.lt_or_ge k (1 + j) with h | h
        · exact hno k h1 h
        · have : k = 1 + j := by omega
          rw [this]; exact hf
    · rintro σ H2 ⟨y4, rfl, rfl, hno⟩
      rw [List.length_map] at hno
      have hr : resOf g.1 (rCla cs gs) = g.1.length := by
        unfold resOf
        have : (List.range' 1 (g.1.length - 1)).find? (isFree g.1 (rCla cs gs)) = none := by
          rw [List.find?_range'_eq_none]
          intro k h1 h2
          rw [hno k h1 (by omega)]; rfl
        rw [this]; rfl
      have := q _ s1
      rw [hr] at this
      refine ⟨.ref pA, rfl, pA, _, rfl, .inr hP1, ?_⟩
      rw [List.length_map]
      exact this
end
end Pv
namespace Pv
open PySem PySem.Spec PyProof.Rows L2
abbrev sGr : Stmt := topS 18
theorem scGr : FnScope ["instance", "crowded", "routes", "group", "first"] ["instance"] (defScope sGr) := ⟨rfl, rfl, rfl, by decide +kernel, rfl, by decide +kernel, by decide +kernel⟩
/-! routes -/
section
variable {P : Program} {w : World} {K : PySem.W.Frag} {mg : Str → Option Value} {base : Heap}
def spGr (K : PySem.W.Frag) : Sp := fun vs H Q _ => ∃ (i : Addr) (cs : List Int) (gs : List Gp), vs = [.ref i] ∧ Dp K H (.ref i) (dInst cs gs) ∧ InsOk cs gs ∧
  ∀ H' p vs, Same H H' → H' p = some (.lst vs) → RtAll K H' vs (gs.map (routeOf cs gs)) → H p = none → Q (.ref p) H'
set_option maxHeartbeats 2000000 in
theorem ok_Gr {f fCr fOp fRe : Addr} {fd fdCr fdOp fdRe : FuncData} (F : Fun K "group_routes" "group_routes" sGr f fd)
    (FCr : Fun K "crowded_posts" "crowded_posts" sCro fCr fdCr) (bCr : Binds K fdCr ["instance"] []) (gCr : mg "crowded_posts" = some (.ref fCr)) (GCr : FnOk P w K mg base CX0 3 fCr fdCr ["instance"] (spVec K rCro))
    (FOp : Fun K "option_post" "option_post" sOpt fOp fdOp) (bOp : Binds K fdOp ["instance", "group", "option"] []) (gOp : mg "option_post" = some (.ref fOp)) (GOp : FnOk P w K mg base CX0 1 fOp fdOp ["instance", "group", "option"] (spOpt K))
    (FRe : Fun K "reserve_option" "reserve_option" sRes fRe fdRe) (bRe : Binds K fdRe ["instance", "group"] []) (gRe : mg "reserve_option" = some (.ref fRe)) (GRe : FnOk P w K mg base CX0 4 fRe fdRe ["instance", "group"] (spRes K))
    (m_len : mg "len" = none) (m_range : mg "range" = none) :
    FnOk P w K mg base CX0 5 f fd ["instance"] (spGr K) := by
  refine F.ok scGr (fun vs H Q E h => ?_) (fun cdv A outer s H vs Q E hr h => ?_)
  · obtain ⟨i, cs, gs, rfl, _⟩ := h; rfl
  · obtain ⟨i, cs, gs, rfl, hI, ok, q⟩ := h
    refine ⟨_, pss_cons (ps_set (i := 1) scGr.nd rfl (.inl rfl) (pe_call GCr (hr.mono (by omega)) (by rfl) gCr FCr.kp bCr .nil pass0 (pa_cons (pv 0) pa_nil)))
      (pss_cons (ps_set (i := 2) scGr.nd rfl (.inl rfl) (pe_lst (pa_nil)))
      (pss_cons (ps_for PassesOwn.never rfl (pi_range1 (by rfl) m_range (pa_cons (pe_callB call_lenQ (by rfl) m_len PySem.boot_len (pa_cons (pe_ix ix_tup (pv 0) (pe_int) (fun _ _ => rfl)) pa_nil)) pa_nil)) (pg_name (i := 3) scGr.nd rfl (.inl rfl))
        (pss_cons (ps_set (i := 4) scGr.nd rfl (.inl rfl) (pe_call GOp (hr.mono (by omega)) (by rfl) gOp FOp.kp bOp .nil pass0 (pa_cons (pv 0) (pa_cons (pv 3) (pa_cons (pe_int) pa_nil)))))
        (pss_one (ps_if (pt_cmpR op_in_seq (pv 4) (pv 1) (by rfl))
          (pss_one (ps_expr (pe_bm PySem.F.plainAttrs_list PySem.F.slot_list_append PySem.F.type_list_append mt_append (pv 2) (pa_cons (pe_tup (pa_cons (pv 4) (pa_cons (pe_call GOp (hr.mono (by omega)) (by rfl) gOp FOp.kp bOp .nil pass0 (pa_cons (pv 0) (pa_cons (pv 3) (pa_cons (pe_call GRe (hr.mono (by omega)) (by rfl) gRe FRe.kp bRe .nil pass0 (pa_cons (pv 0) (pa_cons (pv 3) pa_nil))) pa_nil)))) pa_nil))) pa_nil)))) (pss_one (ps_expr (pe_bm PySem.F.plainAttrs_list PySem.F.slot_list_append PySem.F.type_list_append mt_append (pv 2) (pa_cons (pe_non) pa_nil))))))))
      (pss_one (ps_ret (pv 2))))), ?_⟩
    obtain ⟨_, ca, ga, xs, e, hi, hc, hgt, hgs⟩ := inst_open hI
    cases e
    have lx := DpAll.len hgs
    rw [List.length_map] at lx
    have h10 := ok.g10
    refine ⟨.ref i, rfl, i, cs, gs, rfl, hI, ok, fun H1 Cr s1 hCr => ⟨Nat.zero_le _, fun Ro nRo => ?_⟩⟩
    obtain ⟨_, e, hCr⟩ := dI_ref hCr
    cases e
    have s2 := s1.trans (sameNew (o := .lst []) nRo)
    have fRo : H Ro = none := by
      cases e : H Ro with
      | none => rfl
      | some o => have := s1 _ _ e; rw [nRo] at this; cases this
    refine ⟨.ref i, rfl, i, _, 1, .ref ga, rfl, rfl, (TupK.of s2).sq hi, atI_nat (j := 1) rfl, ga, _, rfl, .inr ((TupK.of s2).sq hgt), _, rfl, by omega, by omega, for_it (walk_range (lo := 0) (n := ((xs.length : Nat) : Int).toNat))
      (fun j σ H3 => ∃ (y3 y4 : Option V) (vs : List V), σ = [some (.ref i), some (.ref Cr), some (.ref Ro), y3, y4] ∧ Same H1 H3 ∧ H3 Ro = some (.lst vs) ∧ RtAll K H3 vs ((gs.take j).map (routeOf cs gs)))
      ⟨none, none, [], rfl, sameNew nRo, upd_same, by simp [RtAll]⟩ (fun _ _ _ _ _ => trivial) ?_ ?_⟩
    · rintro j v σ H3 H4 hlt ⟨y3, y4, vs, rfl, s3, e3, hv3⟩ ⟨rfl, rfl⟩
      have hj : j < gs.length := by omega
      have hg : gs[j]? = some gs[j] := List.getElem?_eq_getElem hj
      have e0 : (0 : Int) + (j : Nat) = ((j : Nat) : Int) := by omega
      have sH := s1.trans s3
      have hI3 := (TupK.of sH).dp _ _ (to_dInst _ _) hI
      have hlv : vs.length = j := by rw [hv3.1, List.length_map, List.length_take]; omega
      dsimp only
      rw [e0]
      refine ⟨.ref i, rfl, .int (j : Nat), rfl, i, j, 0, cs, gs, gs[j], rfl, hI3, hg, Nat.zero_le _, ?_⟩
      refine ⟨_, rfl, .ref Cr, rfl, Cr, _, rfl, .inr ((TupK.of s3).sq hCr), ?_, flat_ints _, _, rfl, ?_⟩
      · unfold optV; split <;> rfl
      have esn : (gs.take (j + 1)).map (routeOf cs gs) = (gs.take j).map (routeOf cs gs) ++ [routeOf cs gs gs[j]] := by rw [take_snoc hg, List.map_append]; rfl
      have hcr := inV_opt gs[j].1 (rCro cs gs)
      refine ite2 (fun h1 => ?_) (fun h1 => ?_)
      · rw [if_neg (by decide), hcr] at h1
        obtain ⟨p, ps, hps, hpc⟩ : ∃ p ps, gs[j].1 = p :: ps ∧ (rCro cs gs).contains p = true := by
          cases e : gs[j].1 with
          | nil => rw [e] at h1; simp at h1
          | cons p ps => rw [e] at h1; exact ⟨p, ps, rfl, h1⟩
        have hr : routeOf cs gs gs[j] = some (p, gs[j].1[resOf gs[j].1 (rCla cs gs)]?) := by unfold routeOf; rw [hps]; simp only; rw [if_pos hpc]
        have ho : optV gs[j].1 0 = .int p := by unfold optV; rw [hps]; rfl
        rw [ho]
        refine ⟨.ref Ro, rfl, .inl ⟨rfl, _, SqL.of e3⟩, .int p, rfl, .ref i, rfl, .int (j : Nat), rfl, .ref i, rfl, .int (j : Nat), rfl, i, j, cs, gs, gs[j], rfl, hI3, ok, hg, fun H5 s5 => ?_⟩
        refine ⟨i, j, resOf gs[j].1 (rCla cs gs), cs, gs, gs[j], rfl, (TupK.of s5).dp _ _ (to_dInst _ _) hI3, hg, resOf_le _ _, (show (2 : Nat) ≤ sizeLine by decide), fun T nT => ?_⟩
        have sT := sameNew (o := .tup [.int p, optV gs[j].1 (resOf gs[j].1 (rCla cs gs))]) nT
        have e6 := (s5.trans sT) _ _ e3
        have tkp : TupK _ (upd (upd H5 T (.tup [.int p, optV gs[j].1 (resOf gs[j].1 (rCla cs gs))])) Ro (.lst (vs ++ [.ref T]))) := TupK.put e6
        refine ⟨Ro, vs, _, rfl, rfl, e6, by rw [hlv]; exact small (by omega), _, _, vs ++ [.ref T], rfl, samePut ((s3.trans s5).trans sT) nRo, upd_same, ?_⟩
        rw [esn, hr]
        refine RtAll.snoc (hv3.tk ((TupK.of (s5.trans sT)).trans tkp)) ⟨T, rfl, ?_⟩
        rw [← optV_oV]
        exact tkp.sq (SqT.of upd_same)
      · rw [if_neg (by decide), hcr] at h1
        have hr : routeOf cs gs gs[j] = none := by
          unfold routeOf
          cases e : gs[j].1 with
          | nil => rfl
          | cons p ps => rw [e] at h1; simp only; rw [if_neg h1]
        refine ⟨.ref Ro, rfl, .inl ⟨rfl, _, SqL.of e3⟩, Ro, vs, _, rfl, rfl, e3, by rw [hlv]; exact small (by omega), _, _, vs ++ [.non], rfl, samePut s3 nRo, upd_same, ?_⟩
        rw [esn, hr]
        exact RtAll.snoc (hv3.tk (TupK.put e3)) rfl
    rintro σ H3 ⟨y3, y4, vs, rfl, s3, e3, hv3⟩
    rw [lx, Int.toNat_natCast, List.take_length] at hv3
    exact ⟨_, rfl, q _ Ro vs (s1.trans s3) e3 hv3 fRo⟩
end
end Pv
namespace Pv
open PySem PySem.Spec PyProof.Rows L2
section
variable {P : Program} {w : World} {K : PySem.W.Frag} {mg : Str → Option Value} {base : Heap}
def spIv (K : PySem.W.Frag) : Sp := fun vs H Q _ => ∃ (st r i : Addr) (v : V) (cs : List Int) (gs : List Gp) (d : PyData), vs = [.ref i, v] ∧ Dp K H (.ref i) (dInst cs gs) ∧ InsOk cs gs ∧ Dq K st r H v d ∧ ∀ H', Same H H' → Q (.bl (isVecD cs gs d)) H'
end
end Pv
namespace Pv
open PySem PySem.Spec PyProof.Rows L2
abbrev sLd : Stmt := topS 33
theorem scLd : FnScope ["_law_instance_here", "_law_found_here", "_law_posts", "_law_count"] ["_law_instance_here"] (defScope sLd) := ⟨rfl, rfl, rfl, by decide +kernel, rfl, by decide +kernel, by decide +kernel⟩
section
variable {P : Program} {w : World} {K : PySem.W.Frag} {mg : Str → Option Value} {base : Heap}
def spLd (K : PySem.W.Frag) : Sp := fun vs H Q _ => ∃ (i : Addr) (cs : List Int) (gs : List Gp), vs = [.ref i] ∧ Dp K H (.ref i) (dInst cs gs) ∧ InsOk cs gs ∧ ∀ H' p, Same H H' → H' p = some (.lst ((rDem cs gs).map V.int)) → H p = none → Q (.ref p) H'
set_option maxHeartbeats 2000000 in
theorem ok_Ld {f : Addr} {fd : FuncData} (F : Fun K "_law_demand" "_law_demand" sLd f fd)
    (m_len : mg "len" = none) :
    FnOk P w K mg base CX0 1 f fd ["_law_instance_here"] (spLd K) := by
  refine F.ok scLd (fun vs H Q E h => ?_) (fun cdv A outer s H vs Q E hr h => ?_)
  · obtain ⟨i, cs, gs, rfl, _⟩ := h; rfl
  · obtain ⟨i, cs, gs, rfl, hI, ok, q⟩ := h
    have hu64 : (A.deeper (envOfC "_law_demand" (defScope sLd) s.heap.objs.size f cdv)).units + 64 < cLine := by have := hr.un; omega
    have hu0 : (A.deeper (envOfC "_law_demand" (defScope sLd) s.heap.objs.size f cdv)).units < cLine := by have := hr.un; omega
    refine ⟨_, pss_cons (ps_set (i := 1) scLd.nd rfl (.inl rfl) (pe_op op_rep (pe_lst (pa_cons (pe_int) pa_nil)) (pe_callB call_lenQ (by rfl) m_len PySem.boot_len (pa_cons (pe_ix ix_tup (pv 0) (pe_int) (fun _ _ => rfl)) pa_nil))))
      (pss_cons (ps_for PassesOwn.never rfl (pi_tup (pe_ix ix_tup (pv 0) (pe_int) (fun _ _ => rfl))) (pg_tup rfl (pgs_cons (pg_name (i := 2) scLd.nd rfl (.inl rfl)) (pgs_cons (pg_name (i := 3) scLd.nd rfl (.inl rfl)) pgs_nil)))
        (pss_one (ps_if (pt_cmpR (op_neNilT hu0) (pv 2) (pe_tup (pa_nil)) (nomark _))
          (pss_one (ps_asg (pe_op op_add (pe_ix ix_list (pv 1) (pe_ix ix_tup (pv 2) (pe_int) (fun _ _ => rfl)) (fun _ _ => rfl)) (pv 3)) (pg_sub (pv 1) (pe_ix ix_tup (pv 2) (pe_int) (fun _ _ => rfl)) set_list))) pss_nil)))
      (pss_one (ps_ret (pv 1)))), ?_⟩
    obtain ⟨_, ca, ga, xs, e, hi, hc, hg, hgs⟩ := inst_open hI
    cases e
    have h6 := ok.c6
    refine ⟨by decide, fun p0 n0 => ⟨.ref i, rfl, i, _, 0, .ref ca, rfl, rfl, (TupK.new n0).sq hi, atI_nat (j := 0) rfl, ca, _, rfl, .inr ((TupK.new n0).sq hc), p0, _, _, rfl, rfl, upd_same, by omega, ?_, ?_, fun L nL => ?_⟩⟩
    · rw [List.length_map]; omega
    · rw [List.length_map]; show 1 * _ ≤ sizeLine; have := small (n := cs.length) (by omega); simp; omega
    have fL : H L = none := freeOf nL
    have s1 : Same H (upd (upd H p0 (.lst [.int 0])) L (.lst (List.replicate ((List.map V.int cs).length : Int).toNat [V.int 0]).flatten)) := samePut (sameNew n0) fL
    refine ⟨.ref i, rfl, i, _, 1, .ref ga, rfl, rfl, (TupK.of s1).sq hi, atI_nat (j := 1) rfl, ga, rfl, ⟨_, (TupK.of s1).sq hg⟩, for_it (walk_tup (K := K) (a := ga) (xs := xs))
      (fun i' σ H2 => ∃ y2 y3, σ = [some (.ref i), some (.ref L), y2, y3] ∧ Same H H2 ∧ H2 L = some (.lst ((demOf cs.length (gs.take i')).map V.int)))
      ⟨none, none, rfl, s1, ?_⟩ ?_ ?_ ?_⟩
    · rw [upd_same, List.length_map, Int.toNat_natCast, zeros_V]; rfl
    · rintro i' σ H2 _ ⟨y2, y3, rfl, s2, e2⟩
      exact (TupK.of s2).sq hg
    · rintro i' v σ H2 H3 hlt ⟨y2, y3, rfl, s2, e2⟩ ⟨rfl, hx⟩
      obtain ⟨d, hd, hxd⟩ := DpAll.at hgs hx
      rw [List.getElem?_map] at hd
      obtain ⟨g, hgi, rfl⟩ := Option.map_eq_some_iff.mp hd
      obtain ⟨gA, pA, rfl, hG, hP⟩ := grp_ref hxd
      have tk := TupK.of s2
      have hsn := demOf_snoc (n := cs.length) hgi
      have hgp := (ok.gp g (List.mem_of_getElem? hgi)).2.1
      have hdl := demOf_len cs.length (gs.take i')
      generalize hcur : demOf cs.length (gs.take i') = cur at e2 hsn hdl
      refine ⟨gA, _, rfl, tk.sq hG, rfl, _, _, rfl, _, _, rfl, rfl, ?_⟩
      refine ⟨.ref pA, rfl, Nat.zero_le _, fun Em nEm => ?_⟩
      have sE := sameNew (o := .tup []) nEm
      have tkE := tk.trans (TupK.of sE)
      have eE := sE _ _ e2
      refine ⟨pA, Em, _, rfl, rfl, tkE.sq hP, SqT.of upd_same, _, rfl, ?_⟩
      generalize upd H3 Em (.tup []) = H4 at sE tkE eE
      have sH := s2.trans sE
      cases hgg : g.1 with
      | nil =>
        refine iteF ⟨_, _, rfl, sH, ?_⟩
        rw [eE, hsn]
        unfold dAdd
        rw [hgg]
      | cons pp ps =>
        refine iteT ?_
        have hpr := hgp pp (by rw [hgg]; simp)
        obtain ⟨pn, rfl⟩ : ∃ pn : Nat, pp = pn := ⟨pp.toNat, by omega⟩
        have hpl : pn < cur.length := by omega
        have hP0 := tkE.sq hP
        have hcv : (cur.map V.int)[pn]? = some (.int cur[pn]) := by rw [List.getElem?_map, List.getElem?_eq_getElem hpl]; rfl
        have h0 : (g.1.map V.int)[0]? = some (.int (pn : Nat)) := by rw [hgg]; rfl
        refine ⟨.ref L, rfl, .ref pA, rfl, pA, _, 0, .int pn, rfl, rfl, hP0, atI_nat (j := 0) h0, L, _, _, .int cur[pn], rfl, rfl, SqL.of eE, atI_nat hcv, .int g.2, rfl, _, _, rfl, rfl, .ref L, rfl, .ref pA, rfl, pA, _, 0, .int pn, rfl, rfl, hP0, atI_nat (j := 0) h0, L, _, _, pn, rfl, rfl, eE, ixN_nat (by rw [List.length_map]; exact hpl), ?_⟩
        refine ⟨_, _, rfl, samePut sH fL, ?_⟩
        rw [upd_same, hsn]
        unfold dAdd
        rw [hgg]
        show _ = some (HO.lst ((addAt cur pn g.2).map V.int))
        unfold addAt
        rw [Int.toNat_natCast, List.getD_eq_getElem?_getD, List.getElem?_eq_getElem hpl, List.map_set]
        rfl
    · rintro σ H2 ⟨y2, y3, rfl, s2, e2⟩
      rw [DpAll.len hgs, List.length_map, List.take_length] at e2
      exact ⟨_, rfl, q _ L s2 e2 fL⟩
end
end Pv
namespace Pv
open PySem PySem.Spec PyProof.Rows L2
abbrev sLr : Stmt := topS 34
theorem scLr : FnScope ["_law_instance_here", "_law_group", "_law_posts", "_law_demand_here", "_law_k"] ["_law_instance_here", "_law_group"] (defScope sLr) := ⟨rfl, rfl, rfl, by decide +kernel, rfl, by decide +kernel, by decide +kernel⟩
abbrev sLw : Stmt := topS 35
theorem scLw : FnScope ["_law_instance_here", "_law_demand_here", "_law_found_here", "_law_group", "_law_posts", "_law_count", "_law_option"] ["_law_instance_here"] (defScope sLw) := ⟨rfl, rfl, rfl, by decide +kernel, rfl, by decide +kernel, by decide +kernel⟩
abbrev sLo : Stmt := topS 36
theorem scLo : FnScope ["_law_instance_here", "_law_demand_here", "_law_excess", "_law_many", "_law_capacity"] ["_law_instance_here"] (defScope sLo) := ⟨rfl, rfl, rfl, by decide +kernel, rfl, by decide +kernel, by decide +kernel⟩
section
variable {P : Program} {w : World} {K : PySem.W.Frag} {mg : Str → Option Value} {base : Heap}
set_option maxHeartbeats 2000000 in
theorem ok_Lr {f fLd : Addr} {fd fdLd : FuncData} (F : Fun K "_law_reserve" "_law_reserve" sLr f fd)
    (FLd : Fun K "_law_demand" "_law_demand" sLd fLd fdLd) (bLd : Binds K fdLd ["_law_instance_here"] []) (gLd : mg "_law_demand" = some (.ref fLd)) (GLd : FnOk P w K mg base CX0 1 fLd fdLd ["_law_instance_here"] (spLd K))
    (m_len : mg "len" = none) (m_range : mg "range" = none) :
    FnOk P w K mg base CX0 2 f fd ["_law_instance_here", "_law_group"] (spRes K) := by
  refine F.ok scLr (fun vs H Q E h => ?_) (fun cdv A outer s H vs Q E hr h => ?_)
  · obtain ⟨i, gi, cs, gs, g, rfl, _⟩ := h; rfl
  · obtain ⟨i, gi, cs, gs, g, rfl, hI, ok, hg, q⟩ := h
    have hu64 : (A.deeper (envOfC "_law_reserve" (defScope sLr) s.heap.objs.size f cdv)).units + 64 < cLine := by have := hr.un; omega
    have hu0 : (A.deeper (envOfC "_law_reserve" (defScope sLr) s.heap.objs.size f cdv)).units < cLine := by have := hr.un; omega
    refine ⟨_, pss_cons (ps_asg (pe_tup (pa_cons (pe_ix ix_tup (pe_ix ix_tup (pe_ix ix_tup (pv 0) (pe_int) (fun _ _ => rfl)) (pv 1) (fun _ _ => rfl)) (pe_int) (fun _ _ => rfl)) (pa_cons (pe_call GLd (hr.mono (by omega)) (by rfl) gLd FLd.kp bLd .nil pass0 (pa_cons (pv 0) pa_nil)) pa_nil))) (pg_tup rfl (pgs_cons (pg_name (i := 2) scLr.nd rfl (.inr rfl)) (pgs_cons (pg_name (i := 3) scLr.nd rfl (.inr rfl)) pgs_nil))))
      (pss_cons (ps_if (pt_cmpR (op_eqNilT hu0) (pv 2) (pe_tup (pa_nil)) (nomark _))
        (pss_one (ps_ret (pe_int))) pss_nil)
      (pss_one (ps_ret (pe_ix ix_list (pe_lc (own := [("_law_k", 4)]) (g := gName 4) (tt := tOr (tTest (tOp rEq (tVar 4) (tCB (rLenQ K) (tCons (tVar 2) tNil)))) (tTest (tOp (rI0 fun i j => .bl (decide (i < j))) (tOp (rIxL K) (tVar 3) (tOp (rIxT K) (tVar 2) (tVar 4))) (tOp (rIxT K) (tOp (rIxT K) (tVar 0) (tC (.int 0))) (tOp (rIxT K) (tVar 2) (tVar 4)))))) (te := tVar 4) rfl scLr.nd (pi_range2 (by rfl) m_range (pa_cons (pe_int) (pa_cons (pe_op op_add (pe_callB call_lenQ (by rfl) m_len PySem.boot_len (pa_cons (pv 2) pa_nil)) (pe_int)) pa_nil))) (blkOk_by (N := ["_law_instance_here", "_law_group", "_law_posts", "_law_demand_here", "_law_k"]) (sc := defScope sLr) (by decide +kernel)) (fun _ _ _ _ _ => pg_name (i := 4) scLr.nd rfl (.inl rfl)) (fun _ _ _ _ _ => pts_one (PW.pt (pw_or (pt_cmpR op_eq (pv 4) (pe_callB call_lenQ (by rfl) m_len PySem.boot_len (pa_cons (pv 2) pa_nil)) (nomark _)) (pw_or1 (pt_cmpR op_lt (pe_ix ix_list (pv 3) (pe_ix ix_tup (pv 2) (pv 4) (fun _ _ => rfl)) (fun _ _ => rfl)) (pe_ix ix_tup (pe_ix ix_tup (pv 0) (pe_int) (fun _ _ => rfl)) (pe_ix ix_tup (pv 2) (pv 4) (fun _ _ => rfl)) (fun _ _ => rfl)) (nomark _)))))) (fun _ _ _ _ _ => pv 4)) (pe_int) (fun _ _ => rfl))))), ?_⟩
    obtain ⟨_, ca, ga, xs, e, hi, hc, hgt, hgs⟩ := inst_open hI
    cases e
    obtain ⟨gA, pA, hx, hG, hP⟩ := grp_at hgs hg
    have hgl := (ok.gp g (List.mem_of_getElem? hg)).1
    have hgp := (ok.gp g (List.mem_of_getElem? hg)).2.1
    have h6 := ok.c6
    refine ⟨.ref i, rfl, i, _, 1, .ref ga, rfl, rfl, hi, atI_nat (j := 1) rfl, .int gi, rfl, ga, _, _, _, rfl, rfl, hgt, atI_nat hx, gA, _, 0, .ref pA, rfl, rfl, hG, atI_nat (j := 0) rfl, ?_⟩
    refine ⟨.ref i, rfl, i, cs, gs, rfl, hI, ok, fun H1 Dm s1 eD _ => ⟨(show (2 : Nat) ≤ sizeLine by decide), fun T nT => ⟨T, _, rfl, SqT.of upd_same, rfl, _, _, rfl, _, _, rfl, rfl, ?_⟩⟩⟩
    have s2 := s1.trans (sameNew (o := .tup [.ref pA, .ref Dm]) nT)
    have eD2 := sameNew (o := .tup [.ref pA, .ref Dm]) nT _ _ eD
    generalize upd H1 T (.tup [.ref pA, .ref Dm]) = H2 at s2 eD2
    refine ⟨.ref pA, rfl, Nat.zero_le _, fun Em nEm => ⟨pA, Em, _, rfl, rfl, sqS (s2.trans (sameNew nEm)) hP, SqT.of upd_same, _, rfl, ?_⟩⟩
    have s3 := s2.trans (sameNew (o := .tup []) nEm)
    have eD3 := sameNew (o := .tup []) nEm _ _ eD2
    generalize upd H2 Em (.tup []) = H3 at s3 eD3
    by_cases hne : g.1 = []
    · have hr : resOf g.1 (rCla cs gs) = 0 := by rw [hne]; rfl
      rw [hne]
      refine iteT ?_
      have := q _ s3
      rw [hr] at this
      exact this
    have hl1 : 1 ≤ g.1.length := by cases hgg : g.1 with
      | nil => exact absurd hgg hne
      | cons a b => simp
    refine iteFF (by rw [List.isEmpty_eq_false_iff]; simpa using hne) ?_
    have hP3 := sqS s3 hP
    have hdl := rDem_len cs gs
    refine ⟨.ref pA, rfl, pA, _, rfl, .inr hP3, _, _, rfl, rfl, 1, _, rfl, ⟨by omega, by omega, by omega, by rw [List.length_map]; omega⟩, fun D nD => lc_it (walk_range (lo := 1) (n := ((((List.map V.int g.1).length : Int) + 1) - 1).toNat))
      (LcP H3 D (List.range' 1 g.1.length) (fun k => if (k == g.1.length || isFree g.1 (rCla cs gs) k) = true then some (.int (k : Nat)) else none)) (.start nD) (fun _ _ _ _ => trivial) ?_ ?_⟩
    · rintro j v H4 H5 hlt hL ⟨rfl, rfl⟩
      rw [List.length_map] at hlt
      have hj : j < g.1.length := by omega
      have e1 : (1 : Int) + (j : Nat) = ((1 + j : Nat) : Int) := by omega
      have hz : (List.range' 1 g.1.length)[j]? = some (1 + j) := by rw [List.getElem?_range' hj]; simp
      have s5 := s3.trans hL.1
      have hP5 := sqS s5 hP
      have eD5 := hL.1 _ _ eD3
      dsimp only
      rw [e1]
      refine ⟨rfl, .int ((1 + j : Nat) : Int), rfl, .ref pA, rfl, pA, _, rfl, .inr hP5, rfl, _, rfl, ite2 (fun h1 => ?_) (fun h1 => ?_)⟩
      · have h1 : 1 + j = g.1.length := by simp at h1; omega
        exact ⟨_, rfl, hL.yes nD (Same.refl _) hz (by rw [h1]; simp) (by omega)⟩
      have h1 : ¬ (1 + j = g.1.length) := by simp at h1; omega
      have hk : 1 + j < g.1.length := by omega
      have hpr := hgp g.1[1 + j] (List.getElem_mem hk)
      obtain ⟨pn, hpn⟩ : ∃ pn : Nat, g.1[1 + j] = pn := ⟨g.1[1 + j].toNat, by omega⟩
      have hpl : pn < cs.length := by omega
      have hpv : (g.1.map V.int)[1 + j]? = some (.int (pn : Nat)) := by rw [atS hk, hpn]
      refine ⟨.ref Dm, rfl, .ref pA, rfl, .int ((1 + j : Nat) : Int), rfl, pA, _, _, .int pn, rfl, rfl, hP5, atI_nat hpv, Dm, _, _, .int (rDem cs gs)[pn], rfl, rfl, SqL.of eD5, atI_nat (atS (by omega)), .ref i, rfl, i, _, 0, .ref ca, rfl, rfl, sqS s5 hi, atI_nat (j := 0) rfl, .ref pA, rfl, .int ((1 + j : Nat) : Int), rfl, pA, _, _, .int pn, rfl, rfl, hP5, atI_nat hpv, ca, _, _, .int cs[pn], rfl, rfl, sqS s5 hc, atI_nat (atS hpl), _, _, rfl, rfl, _, rfl, ?_⟩
      have hfr : isFree g.1 (rCla cs gs) (1 + j) = decide ((rDem cs gs)[pn] < cs[pn]) := by
        unfold isFree
        rw [List.getD_eq_getElem?_getD, List.getElem?_eq_getElem hk, Option.getD_some, hpn, cla_has hpl]
        by_cases h : cs[pn] ≤ (rDem cs gs)[pn] <;> simp [h] <;> omega
      refine ite2 (fun h2 => ?_) (fun h2 => ?_)
      · exact ⟨_, rfl, hL.yes nD (Same.refl _) hz (by rw [hfr, h2]; simp) (by omega)⟩
      · exact hL.no (Same.refl _) hz (by rw [hfr]; simp [h1]; simpa using h2)
    rintro H4 hL
    have e4 := hL.done (by rw [List.length_range', List.length_map]; omega)
    refine ⟨D, _, 0, .int (resOf g.1 (rCla cs gs)), rfl, rfl, SqL.of e4, atI_nat (j := 0) (res_head hl1 (fun k h1 h2 => ?_) (by simp)), q _ (s3.trans hL.1)⟩
    have : (k == g.1.length) = false := by simp; omega
    rw [this]; rfl
def spLw (K : PySem.W.Frag) : Sp := fun vs H Q _ => ∃ (i : Addr) (cs : List Int) (gs : List Gp), vs = [.ref i] ∧ Dp K H (.ref i) (dInst cs gs) ∧ InsOk cs gs ∧
  ∀ H' p vs, Same H H' → H' p = some (.lst vs) → Rl (RwV K H') vs (rowsTo cs gs gs.length) → H p = none → Q (.ref p) H'
set_option maxHeartbeats 2000000 in
theorem ok_Lw {f fLd fLr : Addr} {fd fdLd fdLr : FuncData} (F : Fun K "_law_rows" "_law_rows" sLw f fd)
    (FLd : Fun K "_law_demand" "_law_demand" sLd fLd fdLd) (bLd : Binds K fdLd ["_law_instance_here"] []) (gLd : mg "_law_demand" = some (.ref fLd)) (GLd : FnOk P w K mg base CX0 1 fLd fdLd ["_law_instance_here"] (spLd K))
    (FLr : Fun K "_law_reserve" "_law_reserve" sLr fLr fdLr) (bLr : Binds K fdLr ["_law_instance_here", "_law_group"] []) (gLr : mg "_law_reserve" = some (.ref fLr)) (GLr : FnOk P w K mg base CX0 2 fLr fdLr ["_law_instance_here", "_law_group"] (spRes K))
    (m_enumerate : mg "enumerate" = none) :
    FnOk P w K mg base CX0 3 f fd ["_law_instance_here"] (spLw K) := by
  refine F.ok scLw (fun vs H Q E h => ?_) (fun cdv A outer s H vs Q E hr h => ?_)
  · obtain ⟨i, cs, gs, rfl, _⟩ := h; rfl
  · obtain ⟨i, cs, gs, rfl, hI, ok, q⟩ := h
    have hu64 : (A.deeper (envOfC "_law_rows" (defScope sLw) s.heap.objs.size f cdv)).units + 64 < cLine := by have := hr.un; omega
    have hu0 : (A.deeper (envOfC "_law_rows" (defScope sLw) s.heap.objs.size f cdv)).units < cLine := by have := hr.un; omega
    refine ⟨_, pss_cons (ps_par (i := 1) (j := 2) rfl scLw.nd rfl rfl (by decide) rfl rfl (pa_cons (pe_call GLd (hr.mono (by omega)) (by rfl) gLd FLd.kp bLd .nil pass0 (pa_cons (pv 0) pa_nil)) (pa_cons (pe_lst (pa_nil)) pa_nil)) rfl)
      (pss_cons (ps_for PassesOwn.never rfl (pi_enumT (by rfl) m_enumerate (pa_cons (pe_ix ix_tup (pv 0) (pe_int) (fun _ _ => rfl)) pa_nil)) (pg_tup rfl (pgs_cons (pg_name (i := 3) scLw.nd rfl (.inl rfl)) (pgs_cons (pg_tup rfl (pgs_cons (pg_name (i := 4) scLw.nd rfl (.inl rfl)) (pgs_cons (pg_name (i := 5) scLw.nd rfl (.inl rfl)) pgs_nil))) pgs_nil)))
        (pss_one (ps_if (PW.pt (pw_and (pt_cmpR (op_neNilT hu0) (pv 4) (pe_tup (pa_nil)) (nomark _)) (pw_and1 (pt_cmpR op_gt (pe_ix ix_list (pv 1) (pe_ix ix_tup (pv 4) (pe_int) (fun _ _ => rfl)) (fun _ _ => rfl)) (pe_ix ix_tup (pe_ix ix_tup (pv 0) (pe_int) (fun _ _ => rfl)) (pe_ix ix_tup (pv 4) (pe_int) (fun _ _ => rfl)) (fun _ _ => rfl)) (nomark _)))))
          (pss_cons (ps_set (i := 6) scLw.nd rfl (.inl rfl) (pe_call GLr (hr.mono (by omega)) (by rfl) gLr FLr.kp bLr .nil pass0 (pa_cons (pv 0) (pa_cons (pv 3) pa_nil))))
          (pss_one (ps_expr (pe_bm PySem.F.plainAttrs_list PySem.F.slot_list_append PySem.F.type_list_append mt_append (pv 2) (pa_cons (pe_tup (pa_cons (pv 3) (pa_cons (pe_ix ix_tup (pv 4) (pe_int) (fun _ _ => rfl)) (pa_cons (pe_ix ix_tup (pe_op op_catA (pv 4) (pe_tup (pa_cons (pe_non) pa_nil))) (pv 6) (fun _ _ => rfl)) (pa_cons (pv 5) pa_nil))))) pa_nil))))) pss_nil)))
      (pss_one (ps_ret (pv 2)))), ?_⟩
    obtain ⟨_, ca, ga, xs, e, hi, hc, hgt, hgs⟩ := inst_open hI
    cases e
    have lx := DpAll.len hgs
    rw [List.length_map] at lx
    have h6 := ok.c6
    have h10 := ok.g10
    refine ⟨.ref i, rfl, i, cs, gs, rfl, hI, ok, fun H1 Dm s1 eD nD0 => ⟨Nat.zero_le _, fun Fo nFo => ⟨_, _, rfl, ?_⟩⟩⟩
    have fFo : H Fo = none := by
      cases e : H Fo with
      | none => rfl
      | some o => have := s1 _ _ e; rw [nFo] at this; cases this
    have nDF : Dm ≠ Fo := ne_of_none eD nFo
    have s2 := s1.trans (sameNew (o := .lst []) nFo)
    refine ⟨.ref i, rfl, i, _, 1, .ref ga, rfl, rfl, sqS s2 hi, atI_nat (j := 1) rfl, ga, _, rfl, sqS s2 hgt, for_it (walk_enumT (K := K) (a := ga) (xs := xs))
      (fun j σ H3 => ∃ (y3 y4 y5 y6 : Option V) (vs : List V), σ = [some (.ref i), some (.ref Dm), some (.ref Fo), y3, y4, y5, y6] ∧ Same H1 H3 ∧ H3 Fo = some (.lst vs) ∧ Rl (RwV K H3) vs (rowsTo cs gs j))
      ⟨none, none, none, none, [], rfl, sameNew nFo, upd_same, Rl.nil⟩ (fun j σ H3 _ h => by obtain ⟨_, _, _, _, _, _, s3, _⟩ := h; exact sqS (s1.trans s3) hgt) ?_ ?_⟩
    · rintro j v σ H3 H4 hlt ⟨y3, y4, y5, y6, vs, rfl, s3, e3, hv3⟩ ⟨T, x, y, rfl, nT, rfl, ex, ey⟩
      have hj : j < gs.length := by omega
      have hg : gs[j]? = some gs[j] := List.getElem?_eq_getElem hj
      obtain ⟨gA, pA, hx, hG, hP⟩ := grp_at hgs hg
      cases ex
      have ey : xs[j]? = some y := ey
      rw [hx] at ey
      cases ey
      have hgp := (ok.gp gs[j] (List.getElem_mem hj)).2.1
      have hgl := (ok.gp gs[j] (List.getElem_mem hj)).1
      have hlv : vs.length ≤ j := by rw [hv3.1]; exact rowsTo_len ..
      have sT := sameNew (o := .tup [.int (j : Nat), .ref gA]) nT
      refine ⟨T, _, rfl, SqT.of upd_same, rfl, _, _, rfl, _, _, rfl, gA, _, rfl, sqS (s1.trans (s3.trans sT)) hG, rfl, _, _, rfl, _, _, rfl, rfl, rfl, ?_⟩
      generalize hH4 : upd H3 T (.tup [.int (j : Nat), .ref gA]) = H4 at sT
      refine ⟨.ref pA, rfl, Nat.zero_le _, fun Em nEm => ⟨pA, Em, _, rfl, rfl, sqS (s1.trans ((s3.trans sT).trans (sameNew nEm))) hP, SqT.of upd_same, _, rfl, ?_⟩⟩
      have sE := sT.trans (sameNew (o := .tup []) nEm)
      generalize upd H4 Em (.tup []) = H5 at sE
      have s5 := s3.trans sE
      have s05 := s1.trans s5
      have e5 := sE _ _ e3
      have hv5 : Rl (RwV K H5) vs (rowsTo cs gs j) := hv3.mono fun v r h => h.same sE
      have rsn : rowsTo cs gs (j + 1) = rowsTo cs gs j ++ (rowAt cs gs j gs[j]).toList := rowsTo_succ hg
      by_cases hne : gs[j].1 = []
      · rw [hne]
        refine iteF (iteF ?_)
        refine ⟨_, _, _, _, vs, rfl, s5, e5, ?_⟩
        rw [rsn, show rowAt cs gs j gs[j] = none by unfold rowAt routeOf; rw [hne]; rfl]
        simpa using hv5
      obtain ⟨pp, ps, hps⟩ : ∃ pp ps, gs[j].1 = pp :: ps := by
        cases hgg : gs[j].1 with
        | nil => exact absurd hgg hne
        | cons a b => exact ⟨a, b, rfl⟩
      refine iteTT (by rw [hps]; rfl) ?_
      have hpr := hgp pp (by rw [hps]; simp)
      obtain ⟨pn, rfl⟩ : ∃ pn : Nat, pp = pn := ⟨pp.toNat, by omega⟩
      have hpl : pn < cs.length := by omega
      have hdl : pn < (rDem cs gs).length := by rw [rDem_len]; exact hpl
      have h0 : (gs[j].1.map V.int)[0]? = some (.int (pn : Nat)) := by rw [hps]; rfl
      have hP5 := sqS s05 hP
      refine ⟨.ref Dm, rfl, .ref pA, rfl, pA, _, 0, .int pn, rfl, rfl, hP5, atI_nat (j := 0) h0, Dm, _, _, .int (rDem cs gs)[pn], rfl, rfl, SqL.of (s5 _ _ eD), atI_nat (atS hdl), .ref i, rfl, i, _, 0, .ref ca, rfl, rfl, sqS s05 hi, atI_nat (j := 0) rfl, .ref pA, rfl, pA, _, 0, .int pn, rfl, rfl, hP5, atI_nat (j := 0) h0, ca, _, _, .int cs[pn], rfl, rfl, sqS s05 hc, atI_nat (atS hpl), _, _, rfl, rfl, _, rfl, ?_⟩
      have hro : routeOf cs gs gs[j] = if cs[pn] < (rDem cs gs)[pn] then some ((pn : Int), gs[j].1[resOf gs[j].1 (rCla cs gs)]?) else none := by
        unfold routeOf
        rw [hps]
        simp only
        rw [cro_has hpl]
        by_cases h : cs[pn] < (rDem cs gs)[pn] <;> simp [h]
      refine ite2 (fun h1 => ?_) (fun h1 => ?_)
      · have h1 : cs[pn] < (rDem cs gs)[pn] := by simpa using h1
        rw [if_pos h1] at hro
        have hra : rowAt cs gs j gs[j] = some (j, (pn : Int), gs[j].1[resOf gs[j].1 (rCla cs gs)]?, gs[j].2) := by unfold rowAt; rw [hro]; rfl
        refine ⟨.ref i, rfl, .int (j : Nat), rfl, i, j, cs, gs, gs[j], rfl, (TupK.of s05).dp _ _ (to_dInst _ _) hI, ok, hg, fun H6 s6 => ?_⟩
        have s06 := s05.trans s6
        have hrl := resOf_le gs[j].1 (rCla cs gs)
        refine ⟨.ref Fo, rfl, .inl ⟨rfl, _, SqL.of (s6 _ _ e5)⟩, .int (j : Nat), rfl, .ref pA, rfl, pA, _, 0, .int pn, rfl, rfl, sqS s06 hP, atI_nat (j := 0) h0, .ref pA, rfl, (show (1 : Nat) ≤ sizeLine by decide), fun N nN => ?_⟩
        have sN := sameNew (o := .tup [.non]) nN
        refine ⟨pA, N, _, _, rfl, rfl, sqS (s06.trans sN) hP, SqT.of upd_same, by rw [List.length_map]; have := small (n := gs[j].1.length + 1) (by omega); exact Nat.le_of_lt this, fun h => absurd h (by rw [hps]; simp), fun _ h => absurd h (by simp), fun _ _ C nC => ?_⟩
        have hcv : (gs[j].1.map V.int ++ [.non])[resOf gs[j].1 (rCla cs gs)]? = some (oV gs[j].1[resOf gs[j].1 (rCla cs gs)]?) := by
          by_cases hlt : resOf gs[j].1 (rCla cs gs) < gs[j].1.length
          · rw [List.getElem?_append_left (by rw [List.length_map]; exact hlt), atS hlt, List.getElem?_eq_getElem hlt]; rfl
          · have he : resOf gs[j].1 (rCla cs gs) = gs[j].1.length := by omega
            rw [he, List.getElem?_append_right (by rw [List.length_map]; omega), List.length_map, List.getElem?_eq_none (Nat.le_refl _), Nat.sub_self]; rfl
        have sC := sameNew (o := .tup (gs[j].1.map V.int ++ [.non])) nC
        refine ⟨.int ((resOf gs[j].1 (rCla cs gs) : Nat) : Int), rfl, C, _, _, _, rfl, rfl, SqT.of upd_same, atI_nat hcv, .int gs[j].2, rfl, (show (4 : Nat) ≤ sizeLine by decide), fun T2 nT2 => ?_⟩
        have sT2 := sameNew (o := .tup [.int (j : Nat), .int pn, oV gs[j].1[resOf gs[j].1 (rCla cs gs)]?, .int gs[j].2]) nT2
        have s9 := (s6.trans (sN.trans sC)).trans sT2
        have e9 := s9 _ _ e5
        have hT2 : SqT K _ T2 [.int (j : Nat), .int pn, oV gs[j].1[resOf gs[j].1 (rCla cs gs)]?, .int gs[j].2] := SqT.of (upd_same (H := upd (upd H6 N (.tup [.non])) C (.tup (gs[j].1.map V.int ++ [.non]))))
        generalize upd (upd (upd H6 N (.tup [.non])) C (.tup (gs[j].1.map V.int ++ [.non]))) T2 (.tup [.int (j : Nat), .int pn, oV gs[j].1[resOf gs[j].1 (rCla cs gs)]?, .int gs[j].2]) = H9 at s9 e9 hT2
        have tkp : TupK H9 (upd H9 Fo (.lst (vs ++ [.ref T2]))) := TupK.put e9
        refine ⟨Fo, vs, _, rfl, rfl, e9, small (by omega), _, _, _, _, vs ++ [.ref T2], rfl, samePut (s5.trans s9) nFo, upd_same, ?_⟩
        rw [rsn, hra]
        exact Rl.snoc (hv5.mono fun v r h => (h.same s9).tk tkp) ⟨T2, rfl, tkp.sq hT2⟩
      · have h1 : ¬ cs[pn] < (rDem cs gs)[pn] := by simpa using h1
        rw [if_neg h1] at hro
        refine ⟨_, _, _, _, vs, rfl, s5, e5, ?_⟩
        rw [rsn, show rowAt cs gs j gs[j] = none by unfold rowAt; rw [hro]; rfl]
        simpa using hv5
    rintro σ H3 ⟨y3, y4, y5, y6, vs, rfl, s3, e3, hv3⟩
    rw [lx] at hv3
    exact ⟨_, rfl, q _ Fo vs (s1.trans s3) e3 hv3 fFo⟩
def spLo (K : PySem.W.Frag) : Sp := fun vs H Q _ => ∃ (i : Addr) (cs : List Int) (gs : List Gp), vs = [.ref i] ∧ Dp K H (.ref i) (dInst cs gs) ∧ InsOk cs gs ∧
  ∀ H' T E F, Same H H' → SqT K H' T [.ref E, .ref F] → H' E = some (.lst ((rExc cs gs).map V.int)) → H' F = some (.lst ((rFre cs gs).map V.int)) → H E = none → H F = none → E ≠ F → Q (.ref T) H'
set_option maxHeartbeats 2000000 in
theorem ok_Lo {f fLd : Addr} {fd fdLd : FuncData} (F : Fun K "_law_room" "_law_room" sLo f fd)
    (FLd : Fun K "_law_demand" "_law_demand" sLd fLd fdLd) (bLd : Binds K fdLd ["_law_instance_here"] []) (gLd : mg "_law_demand" = some (.ref fLd)) (GLd : FnOk P w K mg base CX0 1 fLd fdLd ["_law_instance_here"] (spLd K))
    (m_zip : mg "zip" = none) (m_max : mg "max" = none) :
    FnOk P w K mg base CX0 2 f fd ["_law_instance_here"] (spLo K) := by
  refine F.ok scLo (fun vs H Q E h => ?_) (fun cdv A outer s H vs Q E hr h => ?_)
  · obtain ⟨i, cs, gs, rfl, _⟩ := h; rfl
  · obtain ⟨i, cs, gs, rfl, hI, ok, q⟩ := h
    refine ⟨_, pss_cons (ps_set (i := 1) scLo.nd rfl (.inl rfl) (pe_call GLd (hr.mono (by omega)) (by rfl) gLd FLd.kp bLd .nil pass0 (pa_cons (pv 0) pa_nil)))
      (pss_cons (ps_setLc (i := 2) (own := [("_law_many", 3), ("_law_capacity", 4)]) (g := gTup K 2 (gCons (gName 3) (gCons (gName 4) gNil))) (tt := tYes) (te := tCB (fun xs H Q => ∃ i j, xs = [.int i, .int j] ∧ Q (.int (if j > i then j else i)) H) (tCons (tC (.int 0)) (tCons (tOp (rI0 fun i j => .int (i - j)) (tVar 3) (tVar 4)) tNil))) rfl scLo.nd rfl rfl (sw_true rfl rfl rfl (by decide +kernel)) (pi_zipM (by rfl) m_zip (pa_cons (pv 1) (pa_cons (pe_ix ix_tup (pv 0) (pe_int) (fun _ _ => rfl)) pa_nil))) (blkOk_by (N := ["_law_instance_here", "_law_demand_here", "_law_excess", "_law_many", "_law_capacity"]) (sc := defScope sLo) (by decide +kernel)) (fun _ _ _ _ _ => pg_tup rfl (pgs_cons (pg_name (i := 3) scLo.nd rfl (.inl rfl)) (pgs_cons (pg_name (i := 4) scLo.nd rfl (.inl rfl)) pgs_nil))) (fun _ _ _ _ _ => pts_nil) (fun _ _ _ _ _ => pe_callB (call_max2 rfl) (by rfl) m_max (by decide +kernel) (pa_cons (pe_int) (pa_cons (pe_op op_sub (pv 3) (pv 4)) pa_nil))))
      (pss_one (ps_ret (pe_tup (pa_cons (pv 2) (pa_cons (pe_lc (own := [("_law_many", 3), ("_law_capacity", 4)]) (g := gTup K 2 (gCons (gName 3) (gCons (gName 4) gNil))) (tt := tYes) (te := tCB (fun xs H Q => ∃ i j, xs = [.int i, .int j] ∧ Q (.int (if j > i then j else i)) H) (tCons (tC (.int 0)) (tCons (tOp (rI0 fun i j => .int (i - j)) (tVar 4) (tVar 3)) tNil))) rfl scLo.nd (pi_zipM (by rfl) m_zip (pa_cons (pv 1) (pa_cons (pe_ix ix_tup (pv 0) (pe_int) (fun _ _ => rfl)) pa_nil))) (blkOk_by (N := ["_law_instance_here", "_law_demand_here", "_law_excess", "_law_many", "_law_capacity"]) (sc := defScope sLo) (by decide +kernel)) (fun _ _ _ _ _ => pg_tup rfl (pgs_cons (pg_name (i := 3) scLo.nd rfl (.inl rfl)) (pgs_cons (pg_name (i := 4) scLo.nd rfl (.inl rfl)) pgs_nil))) (fun _ _ _ _ _ => pts_nil) (fun _ _ _ _ _ => pe_callB (call_max2 rfl) (by rfl) m_max (by decide +kernel) (pa_cons (pe_int) (pa_cons (pe_op op_sub (pv 4) (pv 3)) pa_nil)))) pa_nil)))))), ?_⟩
    obtain ⟨_, ca, ga, xs, e, hi, hc, hgt, hgs⟩ := inst_open hI
    cases e
    have h6 := ok.c6
    have hdl := rDem_len cs gs
    refine ⟨.ref i, rfl, i, cs, gs, rfl, hI, ok, fun H1 Dm s1 eD nD0 => ?_⟩
    refine ⟨.ref Dm, rfl, .ref i, rfl, i, _, 0, .ref ca, rfl, rfl, sqS s1 hi, atI_nat (j := 0) rfl, Dm, ca, _, _, rfl, SqL.of eD, sqS s1 hc, fun D nD => lc_it (walk_zipM (K := K) (a := Dm) (b := ca) (xs := (rDem cs gs).map V.int) (ys := cs.map V.int) rfl)
      (LcP H1 D ((rDem cs gs).zip cs) (fun z => some (.int (mx (z.1 - z.2))))) (.start nD) (fun j H2 _ h => ⟨SqL.of (h.1 _ _ eD), sqS (s1.trans h.1) hc⟩) ?_ ?_⟩
    · rintro j v H2 H3 hlt hL ⟨T, x, y, rfl, nT, rfl, ex, ey⟩
      rw [List.length_map, List.length_map] at hlt
      have hj1 : j < (rDem cs gs).length := by omega
      have hj2 : j < cs.length := by omega
      have ex : ((rDem cs gs).map V.int)[j]? = some x := ex
      have ey : (cs.map V.int)[j]? = some y := ey
      rw [atS hj1] at ex
      rw [atS hj2] at ey
      cases ex
      cases ey
      have hz : ((rDem cs gs).zip cs)[j]? = some ((rDem cs gs)[j], cs[j]) := by rw [List.getElem?_zip_eq_some]; exact ⟨List.getElem?_eq_getElem hj1, List.getElem?_eq_getElem hj2⟩
      refine ⟨T, _, rfl, SqT.of upd_same, rfl, _, _, rfl, _, _, rfl, rfl, rfl, .int (rDem cs gs)[j], rfl, .int cs[j], rfl, _, _, rfl, rfl, _, _, rfl, hL.yes nD (sameNew nT) hz rfl (by omega)⟩
    rintro H2 hL
    have e2 := hL.done (by rw [List.length_zip, List.length_map, List.length_map]; exact Nat.le_refl _)
    rw [fm_map, exc_zip] at e2
    have s2 := s1.trans hL.1
    refine ⟨_, rfl, .ref Dm, rfl, .ref i, rfl, i, _, 0, .ref ca, rfl, rfl, sqS s2 hi, atI_nat (j := 0) rfl, Dm, ca, _, _, rfl, SqL.of (hL.1 _ _ eD), sqS s2 hc, fun D2 nD2 => lc_it (walk_zipM (K := K) (a := Dm) (b := ca) (xs := (rDem cs gs).map V.int) (ys := cs.map V.int) rfl)
      (LcP H2 D2 ((rDem cs gs).zip cs) (fun z => some (.int (mx (z.2 - z.1))))) (.start nD2) (fun j H3 _ h => ⟨SqL.of (h.1 _ _ (hL.1 _ _ eD)), sqS (s2.trans h.1) hc⟩) ?_ ?_⟩
    · rintro j v H3 H4 hlt hM ⟨T, x, y, rfl, nT, rfl, ex, ey⟩
      rw [List.length_map, List.length_map] at hlt
      have hj1 : j < (rDem cs gs).length := by omega
      have hj2 : j < cs.length := by omega
      have ex : ((rDem cs gs).map V.int)[j]? = some x := ex
      have ey : (cs.map V.int)[j]? = some y := ey
      rw [atS hj1] at ex
      rw [atS hj2] at ey
      cases ex
      cases ey
      have hz : ((rDem cs gs).zip cs)[j]? = some ((rDem cs gs)[j], cs[j]) := by rw [List.getElem?_zip_eq_some]; exact ⟨List.getElem?_eq_getElem hj1, List.getElem?_eq_getElem hj2⟩
      refine ⟨T, _, rfl, SqT.of upd_same, rfl, _, _, rfl, _, _, rfl, rfl, rfl, .int cs[j], rfl, .int (rDem cs gs)[j], rfl, _, _, rfl, rfl, _, _, rfl, hM.yes nD2 (sameNew nT) hz rfl (by omega)⟩
    rintro H3 hM
    have e3 := hM.done (by rw [List.length_zip, List.length_map, List.length_map]; exact Nat.le_refl _)
    rw [fm_map, fre_zip] at e3
    have eE3 := hM.1 _ _ e2
    refine ⟨(show (2 : Nat) ≤ sizeLine by decide), fun T nT => ?_⟩
    have sT := sameNew (o := .tup [.ref D, .ref D2]) nT
    have fr : ∀ {p : Addr}, H1 p = none → H p = none := fun {p} np => by
      cases e : H p with
      | none => rfl
      | some o => have := s1 _ _ e; rw [np] at this; cases this
    have fr2 : H1 D2 = none := by
      cases e : H1 D2 with
      | none => rfl
      | some o => have := hL.1 _ _ e; rw [nD2] at this; cases this
    exact q _ T D D2 ((s2.trans hM.1).trans sT) (SqT.of upd_same) (sT _ _ eE3) (sT _ _ e3) (fr nD) (fr fr2) (ne_of_none e2 nD2)
end
end Pv
namespace Pv
open PySem PySem.Spec PyProof.Rows L2
abbrev sLv : Stmt := topS 37
theorem scLv : FnScope ["_law_instance_here", "_law_value", "_law_groups", "_law_number", "_law_group", "_law_excess", "_law_free", "_law_rows_here", "_law_first", "_law_second", "_law_count", "_law_others", "_law_k", "_law_many", "_law_row"] ["_law_instance_here", "_law_value"] (defScope sLv) := ⟨rfl, rfl, rfl, by decide +kernel, rfl, by decide +kernel, by decide +kernel⟩
section
variable {P : Program} {w : World} {K : PySem.W.Frag} {mg : Str → Option Value} {base : Heap}
set_option maxHeartbeats 4000000 in
theorem ok_Lv {f fLo fLw : Addr} {fd fdLo fdLw : FuncData} (F : Fun K "_law_is_vector" "_law_is_vector" sLv f fd)
    (FLo : Fun K "_law_room" "_law_room" sLo fLo fdLo) (bLo : Binds K fdLo ["_law_instance_here"] []) (gLo : mg "_law_room" = some (.ref fLo)) (GLo : FnOk P w K mg base CX0 2 fLo fdLo ["_law_instance_here"] (spLo K))
    (FLw : Fun K "_law_rows" "_law_rows" sLw fLw fdLw) (bLw : Binds K fdLw ["_law_instance_here"] []) (gLw : mg "_law_rows" = some (.ref fLw)) (GLw : FnOk P w K mg base CX0 3 fLw fdLw ["_law_instance_here"] (spLw K))
    (m_tuple : mg "tuple" = none) (m_isinstance : mg "isinstance" = none) (m_len : mg "len" = none) (m_zip : mg "zip" = none) (m_bool : mg "bool" = none) (m_int : mg "int" = none) (m_range : mg "range" = none) :
    FnOk P w K mg base CX0 4 f fd ["_law_instance_here", "_law_value"] (spIv K) := by
  refine F.ok scLv (fun vs H Q E h => ?_) (fun cdv A outer s H vs Q E hr h => ?_)
  · obtain ⟨st, r, i, v, cs, gs, d, rfl, _⟩ := h; rfl
  · obtain ⟨st, r, i, v, cs, gs, d, rfl, hI, ok, hv, q⟩ := h
    have hu64 : (A.deeper (envOfC "_law_is_vector" (defScope sLv) s.heap.objs.size f cdv)).units + 64 < cLine := by have := hr.un; omega
    refine ⟨_, pss_cons (ps_set (i := 2) scLv.nd rfl (.inl rfl) (pe_ix ix_tup (pv 0) (pe_int) (fun _ _ => rfl)))
      (pss_cons (ps_if (PW.pt (pw_or (pt_not (pt_val (pe_callB call_isi (by rfl) m_isinstance (by decide +kernel) (pa_cons (pv 1) (pa_cons (pe_bltn (v := .ty "tuple") (by rfl) m_tuple (by decide +kernel) rfl) pa_nil))))) (pw_or1 (pt_cmpR op_ne (pe_callB call_lenQ (by rfl) m_len PySem.boot_len (pa_cons (pv 1) pa_nil)) (pe_callB call_lenQ (by rfl) m_len PySem.boot_len (pa_cons (pv 2) pa_nil)) (nomark _)))))
        (pss_one (ps_ret (pe_bl))) pss_nil)
      (pss_cons (ps_for PassesOwn.never rfl (RZ.pi_zipA (by rfl) m_zip (pa_cons (pv 1) (pa_cons (pv 2) pa_nil))) (pg_tup rfl (pgs_cons (pg_name (i := 3) scLv.nd rfl (.inl rfl)) (pgs_cons (pg_name (i := 4) scLv.nd rfl (.inl rfl)) pgs_nil)))
        (pss_one (ps_if (PW.pt (pw_or (pt_val (pe_callB call_isi (by rfl) m_isinstance (by decide +kernel) (pa_cons (pv 3) (pa_cons (pe_bltn (v := .ty "bool") (by rfl) m_bool (by decide +kernel) rfl) pa_nil)))) (pw_or (pt_not (pt_val (pe_callB call_isi (by rfl) m_isinstance (by decide +kernel) (pa_cons (pv 3) (pa_cons (pe_bltn (v := .ty "int") (by rfl) m_int (by decide +kernel) rfl) pa_nil))))) (pw_or1 (pt_not (pt_chain op_le op_le (pe_int) (pv 3) (pe_ix ix_tup (pv 4) (pe_int) (fun _ _ => rfl))))))))
          (pss_one (ps_ret (pe_bl))) pss_nil)))
      (pss_cons (ps_asg (pe_call GLo (hr.mono (by omega)) (by rfl) gLo FLo.kp bLo .nil pass0 (pa_cons (pv 0) pa_nil)) (pg_tup rfl (pgs_cons (pg_name (i := 5) scLv.nd rfl (.inl rfl)) (pgs_cons (pg_name (i := 6) scLv.nd rfl (.inl rfl)) pgs_nil))))
      (pss_cons (ps_set (i := 7) scLv.nd rfl (.inr rfl) (pe_call GLw (hr.mono (by omega)) (by rfl) gLw FLw.kp bLw .nil pass0 (pa_cons (pv 0) pa_nil)))
      (pss_cons (ps_for PassesOwn.never rfl (pi_list (pv 7)) (pg_tup rfl (pgs_cons (pg_name (i := 4) scLv.nd rfl (.inl rfl)) (pgs_cons (pg_name (i := 8) scLv.nd rfl (.inl rfl)) (pgs_cons (pg_name (i := 9) scLv.nd rfl (.inl rfl)) (pgs_cons (pg_name (i := 10) scLv.nd rfl (.inl rfl)) pgs_nil)))))
        (pss_cons (ps_asg (pe_op op_sub (pe_ix ix_list (pv 5) (pv 8) (fun _ _ => rfl)) (pe_ix ix_tup (pv 1) (pv 4) (fun _ _ => rfl))) (pg_sub (pv 5) (pv 8) set_list))
        (pss_one (ps_if (pt_cmp (pc_notN (pv 9)))
          (pss_one (ps_asg (pe_op op_sub (pe_ix ix_list (pv 6) (pv 9) (fun _ _ => rfl)) (pe_ix ix_tup (pv 1) (pv 4) (fun _ _ => rfl))) (pg_sub (pv 6) (pv 9) set_list))) pss_nil))))
      (pss_cons (ps_setLc (i := 11) (own := [("_law_k", 12)]) (g := gName 12) (tt := tTest (tOp (rIn K true) (tVar 12) (tLc (iList K (tVar 7)) (gName 14) (tYes) (tOp (rIxT K) (tVar 14) (tC (.int 0))) [14]))) (te := tVar 12) rfl scLv.nd rfl rfl (sw_true rfl rfl rfl (by decide +kernel)) (pi_range1 (by rfl) m_range (pa_cons (pe_callB call_lenQ (by rfl) m_len PySem.boot_len (pa_cons (pv 1) pa_nil)) pa_nil)) (blkOk_by (N := ["_law_instance_here", "_law_value", "_law_groups", "_law_number", "_law_group", "_law_excess", "_law_free", "_law_rows_here", "_law_first", "_law_second", "_law_count", "_law_others", "_law_k", "_law_many", "_law_row"]) (sc := defScope sLv) (by decide +kernel)) (fun _ _ _ _ _ => pg_name (i := 12) scLv.nd rfl (.inl rfl)) (fun _ _ _ _ _ => pts_one (pt_cmpR op_notIn_seq (pv 12) (pe_lc (own := [("_law_row", 14)]) (g := gName 14) (tt := tYes) (te := tOp (rIxT K) (tVar 14) (tC (.int 0))) rfl scLv.nd (pi_list (pv 7)) (blkOk_by (N := ["_law_instance_here", "_law_value", "_law_groups", "_law_number", "_law_group", "_law_excess", "_law_free", "_law_rows_here", "_law_first", "_law_second", "_law_count", "_law_others", "_law_k", "_law_many", "_law_row"]) (sc := { kind := .function, names := [(".0", .local), ("_law_k", .local), ("_law_rows_here", .cell)], isGenerator := false, isCoroutine := false }) (by decide +kernel)) (fun _ _ _ _ _ => pg_name (i := 14) scLv.nd rfl (.inl rfl)) (fun _ _ _ _ _ => pts_nil) (fun _ _ _ _ _ => pe_ix ix_tup (pv 14) (pe_int) (fun _ _ => rfl))) (by rfl))) (fun _ _ _ _ _ => pv 12))
      (pss_cons (ps_if (PW.pt (pw_or (pt_cmpR (op_neD hu64) (pe_lc (own := [("_law_k", 12)]) (g := gName 12) (tt := tTest (tOp rNe (tOp (rIxT K) (tVar 1) (tVar 12)) (tC (.int 0)))) (te := tVar 12) rfl scLv.nd (pi_list (pv 11)) (blkOk_by (N := ["_law_instance_here", "_law_value", "_law_groups", "_law_number", "_law_group", "_law_excess", "_law_free", "_law_rows_here", "_law_first", "_law_second", "_law_count", "_law_others", "_law_k", "_law_many", "_law_row"]) (sc := defScope sLv) (by decide +kernel)) (fun _ _ _ _ _ => pg_name (i := 12) scLv.nd rfl (.inl rfl)) (fun _ _ _ _ _ => pts_one (pt_cmpR op_ne (pe_ix ix_tup (pv 1) (pv 12) (fun _ _ => rfl)) (pe_int) (nomark _))) (fun _ _ _ _ _ => pv 12)) (pe_lst (pa_nil)) (nomark _)) (pw_or1 (pt_cmpR (op_neD hu64) (pe_lc (own := [("_law_many", 13)]) (g := gName 13) (tt := tTest (tOp rNe (tVar 13) (tC (.int 0)))) (te := tVar 13) rfl scLv.nd (pi_list (pv 5)) (blkOk_by (N := ["_law_instance_here", "_law_value", "_law_groups", "_law_number", "_law_group", "_law_excess", "_law_free", "_law_rows_here", "_law_first", "_law_second", "_law_count", "_law_others", "_law_k", "_law_many", "_law_row"]) (sc := defScope sLv) (by decide +kernel)) (fun _ _ _ _ _ => pg_name (i := 13) scLv.nd rfl (.inl rfl)) (fun _ _ _ _ _ => pts_one (pt_cmpR op_ne (pv 13) (pe_int) (nomark _))) (fun _ _ _ _ _ => pv 13)) (pe_lst (pa_nil)) (nomark _)))))
        (pss_one (ps_ret (pe_bl))) pss_nil)
      (pss_one (ps_ret (pe_cmpR (op_eqD hu64) (pe_lc (own := [("_law_many", 13)]) (g := gName 13) (tt := tTest (tOp (rI0 fun i j => .bl (decide (i < j))) (tVar 13) (tC (.int 0)))) (te := tVar 13) rfl scLv.nd (pi_list (pv 6)) (blkOk_by (N := ["_law_instance_here", "_law_value", "_law_groups", "_law_number", "_law_group", "_law_excess", "_law_free", "_law_rows_here", "_law_first", "_law_second", "_law_count", "_law_others", "_law_k", "_law_many", "_law_row"]) (sc := defScope sLv) (by decide +kernel)) (fun _ _ _ _ _ => pg_name (i := 13) scLv.nd rfl (.inl rfl)) (fun _ _ _ _ _ => pts_one (pt_cmpR op_lt (pv 13) (pe_int) (nomark _))) (fun _ _ _ _ _ => pv 13)) (pe_lst (pa_nil)) (nomark _))))))))))), ?_⟩
    obtain ⟨_, ca, ga, ys, e, hi, hc, hgt, hgs⟩ := inst_open hI
    cases e
    have lx := DpAll.len hgs
    rw [List.length_map] at lx
    have h6 := ok.c6
    have h10 := ok.g10
    refine ⟨.ref i, rfl, i, _, 1, .ref ga, rfl, rfl, hi, atI_nat (j := 1) rfl, ?_⟩
    refine ⟨v, rfl, v, .ty "tuple", _, _, _, rfl, .ty _, hv.ty, kit_tup d, _, rfl, ?_⟩
    by_cases hd0 : isTup d = true
    case neg =>
      refine iteTT (by simpa using hd0) ?_
      have : isVecD cs gs d = false := by
        unfold isVecD
        cases d with
        | tuple ds => exact absurd rfl hd0
        | _ => rfl
      rw [this] at q
      exact iteT (q _ (Same.refl _))
    obtain ⟨ds, rfl⟩ : ∃ ds, d = .tuple ds := by
      cases d with
      | tuple ds => exact ⟨ds, rfl⟩
      | _ => simp [isTup] at hd0
    obtain ⟨b, rfl, zs, hB, hzs⟩ : ∃ b, v = .ref b ∧ ∃ zs, SqT K H b zs ∧ DqAll K st r H zs ds := by
      cases hv with
      | tup h1 h2 => exact ⟨_, rfl, _, h1, h2⟩
    have lzs := DqAll.len hzs
    refine iteFF (by simp [isTup]) ?_
    refine ⟨.ref b, rfl, b, _, rfl, .inr hB, .ref ga, rfl, ga, _, rfl, .inr hgt, rfl, _, rfl, ite2 (fun h1 => ?_) (fun h1 => ?_)⟩
    · have h1 : ¬ ds.length = gs.length := by simp at h1; omega
      have : isVecD cs gs (.tuple ds) = false := by
        have h2 : tupOfD (gs.length : Nat) (gs.length : Nat) (.tuple ds) = false := decide_eq_false (by omega)
        unfold isVecD
        rw [h2]; rfl
      rw [this] at q
      exact q _ (Same.refl _)
    have hdl : ds.length = gs.length := by simp at h1; omega
    have hb : tupOfD (gs.length : Nat) (gs.length : Nat) (.tuple ds) = true := by unfold tupOfD; exact decide_eq_true (by omega)
    have isv : isVecD cs gs (.tuple ds) = ((gs.zip ds).all (fun z => withinD 0 z.1.2 z.2) && meetsD cs gs (ds.map intAt)) := by unfold isVecD; rw [hb]; rfl
    refine ⟨.ref b, rfl, .ref ga, rfl, b, ga, _, _, rfl, .inr ⟨hB, hgt, for_it (walk_zipT (K := K) (a := b) (b := ga) (xs := zs) (ys := ys) rfl)
      (fun j σ H2 => ∃ (y3 y4 : Option V), σ = [some (.ref i), some (.ref b), some (.ref ga), y3, y4, none, none, none, none, none, none, none, none, none, none] ∧ Same H H2 ∧ ∀ k, k < j → ∀ (g : Gp) (d : PyData), gs[k]? = some g → ds[k]? = some d → withinD 0 g.2 d = true)
      ⟨none, none, rfl, Same.refl _, fun k h => by omega⟩ (fun j σ H2 _ h => by obtain ⟨_, _, _, s2, _⟩ := h; exact ⟨sqS s2 hB, sqS s2 hgt⟩) ?_ ?_⟩⟩
    · rintro j x σ H2 H3 hlt ⟨y3, y4, rfl, s2, hw⟩ ⟨T, x0, y0, rfl, nT, rfl, ex, ey⟩
      have hj : j < gs.length := by omega
      have hg : gs[j]? = some gs[j] := List.getElem?_eq_getElem hj
      have ex : zs[j]? = some x0 := ex
      have ey : ys[j]? = some y0 := ey
      obtain ⟨gA, pA, hx, hG, hP⟩ := grp_at hgs hg
      rw [hx] at ey
      cases ey
      obtain ⟨dy, hdy, hyd⟩ := DqAll.at hzs ex
      have sT := sameNew (o := .tup [x0, .ref gA]) nT
      have s3 := s2.trans sT
      have hyd3 := hyd.lasts (.of s3)
      have hq : (gs.zip ds)[j]? = some (gs[j], dy) := by rw [List.getElem?_zip_eq_some]; exact ⟨hg, hdy⟩
      have bad : withinD 0 gs[j].2 dy = false → isVecD cs gs (.tuple ds) = false := by
        intro h
        rw [isv]
        have : (gs.zip ds).all (fun z => withinD 0 z.1.2 z.2) = false := by
          rw [List.all_eq_false]
          exact ⟨_, List.mem_of_getElem? hq, by simp [h]⟩
        rw [this]; rfl
      have good : withinD 0 gs[j].2 dy = true → ∀ k, k < j + 1 → ∀ (g : Gp) (d : PyData), gs[k]? = some g → ds[k]? = some d → withinD 0 g.2 d = true := by
        intro h k hk g d h1 h2
        by_cases hkj : k < j
        · exact hw k hkj g d h1 h2
        · have : k = j := by omega
          subst this
          rw [hg] at h1
          rw [hdy] at h2
          cases h1
          cases h2
          exact h
      refine ⟨T, _, rfl, SqT.of upd_same, rfl, _, _, rfl, _, _, rfl, rfl, ?_⟩
      refine ⟨x0, rfl, x0, .ty "bool", _, _, _, rfl, .ty _, hyd3.ty, kit_bool dy, _, rfl, ?_⟩
      by_cases hbo : isBool dy = true
      · refine iteTT hbo ?_
        rw [bad (by cases dy with | bool _ => rfl | _ => simp [isBool] at hbo)] at q
        exact iteT (q _ s3)
      refine iteFF (by simpa using hbo) ?_
      refine ⟨x0, rfl, x0, .ty "int", _, _, _, rfl, .ty _, hyd3.ty, kit_int dy, _, rfl, ?_⟩
      by_cases hin : isInt dy = true
      case neg =>
        refine iteTT (by simpa using hin) ?_
        rw [bad (by cases dy with | int _ => simp [isInt] at hin | _ => rfl)] at q
        exact iteT (q _ s3)
      obtain ⟨xi, rfl⟩ : ∃ xi, dy = .int xi := by
        cases dy with
        | int x => exact ⟨x, rfl⟩
        | bool _ => simp [isBool] at hbo
        | _ => simp [isInt] at hin
      cases hyd3
      refine iteFF rfl ?_
      refine ⟨.int xi, rfl, _, _, rfl, rfl, _, rfl, ?_⟩
      by_cases h0 : (0 : Int) ≤ xi
      case neg =>
        refine iteFF (decide_eq_false h0) ?_
        rw [bad (by simp [withinD, h0])] at q
        exact ⟨_, rfl, iteT (q _ s3)⟩
      refine iteTT (decide_eq_true h0) ?_
      refine ⟨.ref gA, rfl, gA, _, 1, .int gs[j].2, rfl, rfl, sqS s3 hG, atI_nat (j := 1) rfl, _, _, rfl, rfl, _, rfl, ?_⟩
      by_cases h2 : xi ≤ gs[j].2
      case neg =>
        refine iteTT (by simp [h2]) ?_
        rw [bad (by simp [withinD, h2])] at q
        exact q _ s3
      refine iteFF (by simp [h2]) ?_
      exact ⟨_, _, rfl, s3, good (by simp [withinD, h0, h2])⟩
    rintro σ H2 ⟨y3, y4, rfl, s2, hw⟩
    have hwa : (gs.zip ds).all (fun z => withinD 0 z.1.2 z.2) = true := by
      rw [List.all_eq_true]
      intro z hz
      obtain ⟨k, hk, e⟩ := List.mem_iff_getElem.mp hz
      have hk2 := hk
      rw [List.length_zip] at hk2
      have e2 := List.getElem?_eq_getElem hk
      rw [e, List.getElem?_zip_eq_some] at e2
      exact hw k (by omega) _ _ e2.1 e2.2
    rw [isv, hwa, Bool.true_and] at q
    have hint : ∀ d ∈ ds, ∃ x, d = PyData.int x := by
      intro d hd
      obtain ⟨j, hj, e⟩ := List.mem_iff_getElem.mp hd
      have hjg : j < gs.length := by omega
      have h1 := hw j (by omega) _ _ (List.getElem?_eq_getElem hjg) (List.getElem?_eq_getElem hj)
      rw [← e]
      cases hds : ds[j] with
      | int x => exact ⟨x, rfl⟩
      | _ => rw [hds] at h1; simp [withinD] at h1
    have hzv := ints_vals hint hzs
    generalize hxs : ds.map intAt = xs at q hzv
    have hxl : xs.length = gs.length := by rw [← hxs, List.length_map]; exact hdl
    rw [hzv] at hB
    rw [meets_by hxl] at q
    have hml := mvR_len cs.length xs
    refine ⟨.ref i, rfl, i, cs, gs, rfl, (TupK.of s2).dp _ _ (to_dInst _ _) hI, ok, fun H3 T E F s3 hT eE eF fE fF nEF => ⟨T, _, rfl, hT, rfl, _, _, rfl, _, _, rfl, rfl, ?_⟩⟩
    have s03 := s2.trans s3
    refine ⟨.ref i, rfl, i, cs, gs, rfl, (TupK.of s03).dp _ _ (to_dInst _ _) hI, ok, fun H4 Ro vs s4 eR hR fR => ?_⟩
    have nER : E ≠ Ro := ne_of_none eE fR
    have nFR : F ≠ Ro := ne_of_none eF fR
    have hrl := rowsTo_len cs gs gs.length
    have hvl := hR.1
    refine ⟨.ref Ro, rfl, Ro, rfl, ⟨_, SqL.of eR⟩, for_it (walk_list (K := K) (a := Ro) (xs := vs))
      (fun j σ H5 => ∃ (y3 y4 y8 y9 y10 : Option V), σ = [some (.ref i), some (.ref b), some (.ref ga), y3, y4, some (.ref E), some (.ref F), some (.ref Ro), y8, y9, y10, none, none, none, none] ∧ Same H2 H5 ∧ TupK H4 H5 ∧ H5 Ro = some (.lst vs) ∧
        H5 E = some (.lst ((subL (rExc cs gs) (mvR cs.length xs ((rowsTo cs gs gs.length).take j)).1).map V.int)) ∧ H5 F = some (.lst ((subL (rFre cs gs) (mvR cs.length xs ((rowsTo cs gs gs.length).take j)).2).map V.int)))
      ⟨_, _, none, none, none, rfl, s3.trans s4, TupK.refl _, eR, ?_, ?_⟩ (fun j σ H5 _ h => by obtain ⟨_, _, _, _, _, _, _, _, e5, _⟩ := h; exact SqL.of e5) ?_ ?_⟩
    · have h0 : subL (rExc cs gs) (mvR cs.length xs ((rowsTo cs gs gs.length).take 0)).1 = rExc cs gs := by
        have := sub_zero (rExc cs gs); rw [rExc_len] at this; exact this
      rw [h0]; exact s4 _ _ eE
    · have h0 : subL (rFre cs gs) (mvR cs.length xs ((rowsTo cs gs gs.length).take 0)).2 = rFre cs gs := by
        have := sub_zero (rFre cs gs); rw [rFre_len] at this; exact this
      rw [h0]; exact s4 _ _ eF
    · rintro j x σ H5 H6 hlt ⟨y3, y4, y8, y9, y10, rfl, s5, tk5, eR5, eE5, eF5⟩ ⟨rfl, hx⟩
      have hx : vs[j]? = some x := hx
      obtain ⟨⟨gi, p0, q0, c0⟩, hr, T2, rfl, hT2⟩ := hR.at hx
      obtain ⟨g, hg, hro, hgl⟩ := row_mem (List.mem_of_getElem? hr)
      dsimp only at hg hro hgl
      obtain ⟨hp0, hq0⟩ := route_in ok (List.mem_of_getElem? hg) hro
      have hsn : mvR cs.length xs ((rowsTo cs gs gs.length).take (j + 1)) = stepR xs (mvR cs.length xs ((rowsTo cs gs gs.length).take j)) (gi, p0, q0, c0) := by rw [take_snoc hr, mvR_snoc]
      obtain ⟨pn, rfl⟩ : ∃ pn : Nat, p0 = pn := ⟨p0.toNat, by simp only at hp0; omega⟩
      have l1 : (rExc cs gs).length = (mvR cs.length xs ((rowsTo cs gs gs.length).take j)).1.length := by rw [rExc_len, (hml _).1]
      have l2 : (rFre cs gs).length = (mvR cs.length xs ((rowsTo cs gs gs.length).take j)).2.length := by rw [rFre_len, (hml _).2]
      have hpl : pn < (subL (rExc cs gs) (mvR cs.length xs ((rowsTo cs gs gs.length).take j)).1).length := by rw [subL_len l1, rExc_len]; simp only at hp0; omega
      have hgx : gi < xs.length := by omega
      have hgd : xs.getD gi 0 = xs[gi] := by rw [List.getD_eq_getElem?_getD, List.getElem?_eq_getElem hgx]; rfl
      have hB6 := sqS (s2.trans s5) hB
      refine ⟨T2, _, rfl, tk5.sq hT2, rfl, _, _, rfl, _, _, rfl, _, _, rfl, _, _, rfl, rfl, ?_⟩
      refine ⟨.ref E, rfl, .int pn, rfl, E, _, _, _, rfl, rfl, SqL.of eE5, atI_nat (atS hpl), .ref b, rfl, .int (gi : Nat), rfl, b, _, _, _, rfl, rfl, hB6, atI_nat (atS hgx), _, _, rfl, rfl, .ref E, rfl, .int pn, rfl, E, _, _, pn, rfl, rfl, eE5, ixN_nat (by rw [List.length_map]; exact hpl), ?_⟩
      have hset : ((subL (rExc cs gs) (mvR cs.length xs ((rowsTo cs gs gs.length).take j)).1).map V.int).set pn (.int ((subL (rExc cs gs) (mvR cs.length xs ((rowsTo cs gs gs.length).take j)).1)[pn] - xs[gi])) = (subL (rExc cs gs) (mvR cs.length xs ((rowsTo cs gs gs.length).take (j + 1))).1).map V.int := by
        rw [hsn]
        unfold stepR
        rw [hgd]
        show _ = (subL (rExc cs gs) (addAt _ pn xs[gi])).map V.int
        rw [sub_add l1 hpl, List.map_set]
      dsimp only
      rw [hset]
      have s7 := samePut (o := .lst ((subL (rExc cs gs) (mvR cs.length xs ((rowsTo cs gs gs.length).take (j + 1))).1).map V.int)) s5 fE
      have tk7 := tk5.trans (TupK.put (o := .lst ((subL (rExc cs gs) (mvR cs.length xs ((rowsTo cs gs gs.length).take (j + 1))).1).map V.int)) eE5)
      have eE7 : (upd H6 E (.lst ((subL (rExc cs gs) (mvR cs.length xs ((rowsTo cs gs gs.length).take (j + 1))).1).map V.int))) E = _ := upd_same
      have eF7 : (upd H6 E (.lst ((subL (rExc cs gs) (mvR cs.length xs ((rowsTo cs gs gs.length).take (j + 1))).1).map V.int))) F = _ := (upd_ne nEF.symm).trans eF5
      have eR7 : (upd H6 E (.lst ((subL (rExc cs gs) (mvR cs.length xs ((rowsTo cs gs gs.length).take (j + 1))).1).map V.int))) Ro = _ := (upd_ne nER.symm).trans eR5
      generalize upd H6 E (.lst ((subL (rExc cs gs) (mvR cs.length xs ((rowsTo cs gs gs.length).take (j + 1))).1).map V.int)) = H7 at s7 tk7 eE7 eF7 eR7
      have hB7 := sqS (s2.trans s7) hB
      cases q0 with
      | none =>
        refine ⟨_, rfl, _, rfl, iteFF (by simp [oV]) ?_⟩
        refine ⟨_, _, _, _, _, rfl, s7, tk7, eR7, eE7, ?_⟩
        rw [eF7, hsn]; rfl
      | some y0 =>
        have hy0 := hq0 y0 rfl
        obtain ⟨yn, rfl⟩ : ∃ yn : Nat, y0 = yn := ⟨y0.toNat, by omega⟩
        have hyl : yn < (subL (rFre cs gs) (mvR cs.length xs ((rowsTo cs gs gs.length).take j)).2).length := by rw [subL_len l2, rFre_len]; omega
        refine ⟨_, rfl, _, rfl, iteTT (by simp [oV]) ?_⟩
        refine ⟨.ref F, rfl, .int yn, rfl, F, _, _, _, rfl, rfl, SqL.of eF7, atI_nat (atS hyl), .ref b, rfl, .int (gi : Nat), rfl, b, _, _, _, rfl, rfl, hB7, atI_nat (atS hgx), _, _, rfl, rfl, .ref F, rfl, .int yn, rfl, F, _, _, yn, rfl, rfl, eF7, ixN_nat (by rw [List.length_map]; exact hyl), ?_⟩
        refine ⟨_, _, _, _, _, rfl, samePut s7 fF, tk7.trans (TupK.put eF7), (upd_ne nFR.symm).trans eR7, (upd_ne nEF).trans eE7, ?_⟩
        rw [upd_same, hsn]
        unfold stepR
        rw [hgd]
        show _ = some (HO.lst ((subL (rFre cs gs) (addAt _ yn xs[gi])).map V.int))
        rw [sub_add l2 hyl, List.map_set]
    rintro σ H5 ⟨y3, y4, y8, y9, y10, rfl, s5, tk5, eR5, eE5, eF5⟩
    rw [hvl, List.take_length] at eE5 eF5
    have s05 := s2.trans s5
    have hB5 := sqS s05 hB
    have hR5 : Rl (RwV K H5) vs (rowsTo cs gs gs.length) := hR.mono fun v r h => h.tk tk5
    -- others
    refine ⟨.ref b, rfl, b, _, rfl, .inr hB5, _, rfl, by omega, by rw [List.length_map]; omega, fun D nD => lc_it (walk_range (lo := 0) (n := (((List.map V.int xs).length : Nat) : Int).toNat))
      (LcP H5 D (List.range xs.length) (fun (k : Nat) => if (!((rowsTo cs gs gs.length).map (fun r => (r.1 : Int))).contains (k : Int)) = true then some (.int (k : Nat)) else none)) (.start nD) (fun _ _ _ _ => trivial) ?_ ?_⟩
    · rintro j v H6 H7 hlt hL ⟨rfl, rfl⟩
      rw [List.length_map, Int.toNat_natCast] at hlt
      have e0 : (0 : Int) + (j : Nat) = ((j : Nat) : Int) := by omega
      have hz : (List.range xs.length)[j]? = some j := List.getElem?_range hlt
      have eR6 := hL.1 _ _ eR5
      dsimp only
      rw [e0]
      refine ⟨rfl, .int (j : Nat), rfl, .ref Ro, rfl, Ro, rfl, ⟨_, SqL.of eR6⟩, fun D2 nD2 => lc_it (walk_list (K := K) (a := Ro) (xs := vs))
        (LcP H7 D2 (rowsTo cs gs gs.length) (fun r => some (.int (r.1 : Nat)))) (.start nD2) (fun j H _ h => SqL.of (h.1 _ _ eR6)) ?_ ?_⟩
      · rintro m v H8 H9 hm hM ⟨rfl, hv⟩
        have hv : vs[m]? = some v := hv
        obtain ⟨r, hr, T3, rfl, hT3⟩ := hR5.at hv
        exact ⟨rfl, .ref T3, rfl, T3, _, 0, _, rfl, rfl, sqS (hL.1.trans hM.1) hT3, atI_nat (j := 0) rfl, hM.yes nD2 (Same.refl _) hr rfl (by omega)⟩
      rintro H8 hM
      have e8 := hM.done (Nat.le_of_eq hvl.symm)
      have hmm : (rowsTo cs gs gs.length).filterMap (fun r => some (V.int (r.1 : Nat))) = ((rowsTo cs gs gs.length).map (fun r => (r.1 : Int))).map V.int := by rw [fm_map, List.map_map]; rfl
      rw [hmm] at e8
      refine ⟨D2, _, rfl, .inl (SqL.of e8), rfl, flat_ints _, _, rfl, ?_⟩
      rw [if_pos rfl, inV_ints]
      refine ite2 (fun h2 => ?_) (fun h2 => ?_)
      · exact ⟨_, rfl, hL.yes nD hM.1 hz (if_pos h2) (by omega)⟩
      · exact hL.no hM.1 hz (if_neg h2)
    rintro H6 hL
    have e6 := hL.done (by rw [List.length_range, List.length_map]; omega)
    have ho : (List.range xs.length).filterMap (fun (k : Nat) => if (!((rowsTo cs gs gs.length).map (fun r => (r.1 : Int))).contains (k : Int)) = true then some (V.int (k : Nat)) else none) = ((othOf cs gs xs.length).map (fun (k : Nat) => (k : Int))).map V.int := by rw [fm_filter, List.map_map]; rfl
    rw [ho] at e6
    have s06 := s05.trans hL.1
    have hB6 := sqS s06 hB
    have eE6 := hL.1 _ _ eE5
    have eF6 := hL.1 _ _ eF5
    have hol : ((othOf cs gs xs.length).map (fun (k : Nat) => (k : Int))).length ≤ 10 := by
      rw [List.length_map]
      unfold othOf
      exact Nat.le_trans (List.length_filter_le _ _) (by rw [List.length_range]; omega)
    refine ⟨.ref D, rfl, D, rfl, ⟨_, SqL.of e6⟩, fun D3 nD3 => lc_it (walk_list (K := K) (a := D) (xs := ((othOf cs gs xs.length).map (fun (k : Nat) => (k : Int))).map V.int))
      (LcP H6 D3 ((othOf cs gs xs.length).map (fun (k : Nat) => (k : Int))) (fun k => if (!decide (xs.getD k.toNat 0 = 0)) = true then some (.int k) else none)) (.start nD3) (fun j H _ h => SqL.of (h.1 _ _ e6)) ?_ ?_⟩
    · rintro m v H8 H9 hm hM ⟨rfl, hv⟩
      have hv : (((othOf cs gs xs.length).map (fun (k : Nat) => (k : Int))).map V.int)[m]? = some v := hv
      rw [List.getElem?_map] at hv
      obtain ⟨k, hk, rfl⟩ := Option.map_eq_some_iff.mp hv
      obtain ⟨kn, rfl, hkn⟩ := oth_mem (List.mem_of_getElem? hk)
      rw [List.length_map] at hm
      refine ⟨rfl, .ref b, rfl, .int (kn : Nat), rfl, b, _, _, _, rfl, rfl, sqS (hM.1) hB6, atI_nat (atS hkn), rfl, _, rfl, ?_⟩
      have hgd : xs.getD kn 0 = xs[kn] := by rw [List.getD_eq_getElem?_getD, List.getElem?_eq_getElem hkn]; rfl
      refine ite2 (fun h2 => ?_) (fun h2 => ?_)
      · exact ⟨_, rfl, hM.yes nD3 (Same.refl _) hk (by rw [Int.toNat_natCast, hgd]; simp at h2 ⊢; exact h2) (by omega)⟩
      · exact hM.no (Same.refl _) hk (by rw [Int.toNat_natCast, hgd]; simp at h2 ⊢; exact h2)
    rintro H8 hM
    have e8 := hM.done (by simp)
    rw [fm_filter] at e8
    refine ⟨Nat.zero_le _, fun Em nEm => ⟨.list ((((othOf cs gs xs.length).map (fun (k : Nat) => (k : Int))).filter (fun k => !decide (xs.getD k.toNat 0 = 0))).map PyData.int), .list [], .lst (SqL.of (upNew nEm e8)) (dp_ints _), .lst (SqL.of upd_same) .nil, shaped_ints _, by decide, _, rfl, ?_⟩⟩
    rw [eqv_empty, List.isEmpty_map]
    have s9 := hM.1.trans (sameNew (o := .lst []) nEm)
    generalize upd H8 Em (.lst []) = H9 at s9
    have eE9 := s9 _ _ eE6
    have eF9 := s9 _ _ eF6
    have s09 := s06.trans s9
    refine ite2 (fun h1 => ?_) (fun h1 => ?_)
    · have h1 : (((othOf cs gs xs.length).map (fun (k : Nat) => (k : Int))).filter (fun k => !decide (xs.getD k.toNat 0 = 0))).isEmpty = false := by simpa using h1
      rw [h1] at q
      exact iteT (q _ s09)
    have h1 : (((othOf cs gs xs.length).map (fun (k : Nat) => (k : Int))).filter (fun k => !decide (xs.getD k.toNat 0 = 0))).isEmpty = true := by simpa using h1
    rw [h1, Bool.true_and] at q
    generalize hzE : subL (rExc cs gs) (mvR cs.length xs (rowsTo cs gs gs.length)).1 = zE at q eE9
    generalize hzF : subL (rFre cs gs) (mvR cs.length xs (rowsTo cs gs gs.length)).2 = zF at q eF9
    have lE : zE.length ≤ 6 := by rw [← hzE, subL_len (by rw [rExc_len, (hml _).1]), rExc_len]; omega
    have lF : zF.length ≤ 6 := by rw [← hzF, subL_len (by rw [rFre_len, (hml _).2]), rFre_len]; omega
    refine ⟨.ref E, rfl, E, rfl, ⟨_, SqL.of eE9⟩, fun D4 nD4 => lc_it (walk_list (K := K) (a := E) (xs := zE.map V.int))
      (LcP H9 D4 zE (fun x => if (!decide (x = 0)) = true then some (.int x) else none)) (.start nD4) (fun j H _ h => SqL.of (h.1 _ _ eE9)) ?_ ?_⟩
    · rintro m v H10 H11 hm hN ⟨rfl, hv⟩
      have hv : (zE.map V.int)[m]? = some v := hv
      rw [List.getElem?_map] at hv
      obtain ⟨k, hk, rfl⟩ := Option.map_eq_some_iff.mp hv
      rw [List.length_map] at hm
      refine ⟨rfl, .int k, rfl, rfl, _, rfl, ite2 (fun h2 => ?_) (fun h2 => ?_)⟩
      · exact ⟨_, rfl, hN.yes nD4 (Same.refl _) hk (by simp at h2 ⊢; exact h2) (by omega)⟩
      · exact hN.no (Same.refl _) hk (by simp at h2 ⊢; exact h2)
    rintro H10 hN
    have e10 := hN.done (by rw [List.length_map]; exact Nat.le_refl _)
    rw [fm_filter] at e10
    refine ⟨Nat.zero_le _, fun Em2 nEm2 => ⟨.list ((zE.filter (fun x => !decide (x = 0))).map PyData.int), .list [], .lst (SqL.of (upNew nEm2 e10)) (dp_ints _), .lst (SqL.of upd_same) .nil, shaped_ints _, by decide, _, rfl, ?_⟩⟩
    rw [eqv_empty, List.isEmpty_map]
    have s11 := hN.1.trans (sameNew (o := .lst []) nEm2)
    generalize upd H10 Em2 (.lst []) = H11 at s11
    have eF11 := s11 _ _ eF9
    have s011 := s09.trans s11
    cases hf2 : (zE.filter (fun x => !decide (x = 0))).isEmpty with
    | false =>
      rw [hf2] at q
      exact iteT (q _ s011)
    | true =>
    rw [hf2, Bool.true_and] at q
    refine iteF ?_
    refine ⟨.ref F, rfl, F, rfl, ⟨_, SqL.of eF11⟩, fun D5 nD5 => lc_it (walk_list (K := K) (a := F) (xs := zF.map V.int))
      (LcP H11 D5 zF (fun x => if (decide (x < 0)) = true then some (.int x) else none)) (.start nD5) (fun j H _ h => SqL.of (h.1 _ _ eF11)) ?_ ?_⟩
    · rintro m v H12 H13 hm hN ⟨rfl, hv⟩
      have hv : (zF.map V.int)[m]? = some v := hv
      rw [List.getElem?_map] at hv
      obtain ⟨k, hk, rfl⟩ := Option.map_eq_some_iff.mp hv
      rw [List.length_map] at hm
      refine ⟨rfl, .int k, rfl, _, _, rfl, rfl, _, rfl, ite2 (fun h2 => ?_) (fun h2 => ?_)⟩
      · exact ⟨_, rfl, hN.yes nD5 (Same.refl _) hk (if_pos h2) (by omega)⟩
      · exact hN.no (Same.refl _) hk (if_neg h2)
    rintro H12 hN2
    have e12 := hN2.done (by rw [List.length_map]; exact Nat.le_refl _)
    rw [fm_filter] at e12
    refine ⟨Nat.zero_le _, fun Em3 nEm3 => ⟨.list ((zF.filter (fun x => decide (x < 0))).map PyData.int), .list [], .lst (SqL.of (upNew nEm3 e12)) (dp_ints _), .lst (SqL.of upd_same) .nil, shaped_ints _, by decide, ?_⟩⟩
    rw [eqv_empty, List.isEmpty_map]
    exact q _ (s011.trans (hN2.1.trans (sameNew nEm3)))
end
end Pv
namespace Pv
open PySem PySem.Spec PyProof.Rows L2
abbrev zn1 (h : Heap) (l1 : Addr) : Heap := h.push { cls := .type "tuple_iterator", data := .fields #[.ref l1, .int 0 0] }
abbrev zn2 (h : Heap) (l1 l2 : Addr) : Heap := (zn1 h l1).push { cls := .type "list_iterator", data := .fields #[.ref l2, .int 0 0] }
abbrev zn3 (h : Heap) (l1 l2 : Addr) : Heap := (zn2 h l1 l2).push { cls := .type "tuple", data := .seq #[.ref h.objs.size, .ref (zn1 h l1).objs.size] }
abbrev zn4 (h : Heap) (l1 l2 : Addr) : Heap := (zn3 h l1 l2).push { cls := .type "tuple", data := .seq #[.none, .none] }
abbrev zn5 (h : Heap) (l1 l2 : Addr) : Heap := (zn4 h l1 l2).push { cls := .type "zip", data := .fields #[.none, .bool false, .bool false, .ref (zn2 h l1 l2).objs.size, .ref (zn3 h l1 l2).objs.size] }
theorem zipN_new (l1 l2 : Addr) (xs ys : Array Value) :
    Meets (Builtin.«zip.__new__» ⟨[.type "zip", .ref l1, .ref l2], []⟩) (fun _ R s => s.heap.IsTuple l1 xs ∧ s.heap.IsList l2 ys ∧
      R (.ok (.ret (.ref (zn4 s.heap l1 l2).objs.size))) { s with heap := zn5 s.heap l1 l2 }) :=
  .of_wp fun prog w A R s h => by
    obtain ⟨hp, g, d, tk, os⟩ := s
    obtain ⟨hl1, hl2, h⟩ := h
    have hsub := sub_zip
    have hL1 : Heap.IsTuple (Shared.heap ⟨hp, g, d, tk, os⟩) l1 xs := hl1
    have hL2 : Heap.IsList (Shared.heap ⟨zn1 hp l1, g, d, tk, os⟩) l2 ys := Heap.IsList.push hl2 _
    wp_walk using wpAny_pyIter_tuple hL1, wpAny_pyIter_list hL2
    exact ⟨_, rfl, h⟩
theorem call_zipN {prog : Program} {w : World} {A : Around} {E : Value → Shared → Prop} {s : Shared} {l1 l2 : Addr} {xs ys : Array Value} {Q : Value → Shared → Prop} (hl1 : s.heap.IsTuple l1 xs) (hl2 : s.heap.IsList l2 ys)
    (h : ∀ h', IsZip h' (s.heap.objs.size + 4) (s.heap.objs.size + 2) (s.heap.objs.size + 3) .none → IsPair h' (s.heap.objs.size + 2) (.ref s.heap.objs.size) (.ref (s.heap.objs.size + 1)) →
      IsPair h' (s.heap.objs.size + 3) .none .none → h'.IsTupleIter s.heap.objs.size l1 0 → h'.IsListIter (s.heap.objs.size + 1) l2 0 →
      (∀ c o, s.heap.get? c = some o → h'.get? c = some o) → Q (.ref (s.heap.objs.size + 4)) { s with heap := h' }) :
    wpAny (model prog w) A (call (.type "zip") [.ref l1, .ref l2]) Q E s := by
  refine callType_new F.called_zip (by decide) (F.typeCall_zip_2 _ _) (F.newCall_zip_2 _ _) (fun obj => F.args_object_init_3 obj _ _) F.entry_zip_new (zipN_new l1 l2 xs ys) ⟨hl1, hl2, ?_⟩
  have z1 : (zn1 s.heap l1).objs.size = s.heap.objs.size + 1 := Heap.size_push ..
  have z2 : (zn2 s.heap l1 l2).objs.size = s.heap.objs.size + 2 := by rw [Heap.size_push, z1]
  have z3 : (zn3 s.heap l1 l2).objs.size = s.heap.objs.size + 3 := by rw [Heap.size_push, z2]
  have z4 : (zn4 s.heap l1 l2).objs.size = s.heap.objs.size + 4 := by rw [Heap.size_push, z3]
  have g5 : (zn5 s.heap l1 l2).get? (zn4 s.heap l1 l2).objs.size = some _ := Heap.get?_push_size _ rfl
  have g4 : (zn5 s.heap l1 l2).get? (zn3 s.heap l1 l2).objs.size = some _ := Heap.get?_push_of_some _ (Heap.get?_push_size _ rfl)
  have g3 : (zn5 s.heap l1 l2).get? (zn2 s.heap l1 l2).objs.size = some _ := Heap.get?_push_of_some _ (Heap.get?_push_of_some _ (Heap.get?_push_size _ rfl))
  have g2 : (zn5 s.heap l1 l2).get? (zn1 s.heap l1).objs.size = some _ := Heap.get?_push_of_some _ (Heap.get?_push_of_some _ (Heap.get?_push_of_some _ (Heap.get?_push_size _ rfl)))
  have g1 : (zn5 s.heap l1 l2).get? s.heap.objs.size = some _ := Heap.get?_push_of_some _ (Heap.get?_push_of_some _ (Heap.get?_push_of_some _ (Heap.get?_push_of_some _ (Heap.get?_push_size _ rfl))))
  show _ ∧ _
  rw [z2, z3, z4] at g5
  rw [z1, z2] at g3
  rw [z3] at g4
  rw [z1] at g2
  rw [z4]
  refine ⟨⟨_, g5, rfl⟩, h _ g5 g3 g4 ⟨_, g1, rfl, rfl⟩ ⟨_, g2, rfl, rfl⟩ ?_⟩
  intro c o x
  exact Heap.get?_push_of_some _ (Heap.get?_push_of_some _ (Heap.get?_push_of_some _ (Heap.get?_push_of_some _ (Heap.get?_push_of_some _ x))))
def ItzN (K : PySem.W.Frag) (a b : Addr) : It :=
  ⟨fun i H => ∃ (xs ys : List V) (x y : V), SqT K H a xs ∧ SqL K H b ys ∧ xs[i]? = some x ∧ ys[i]? = some y,
   fun i H v H' => ∃ T x y, v = .ref T ∧ H T = none ∧ H' = upd H T (.tup [x, y]) ∧ (∀ xs, SqT K H a xs → xs[i]? = some x) ∧ ∀ ys, SqL K H b ys → ys[i]? = some y,
   fun i H => ∃ xs ys : List V, SqT K H a xs ∧ SqL K H b ys ∧ min xs.length ys.length = i⟩
theorem turn_zipN {P : Program} {w : World} {K : PySem.W.Frag} {elts : List Expr} {kk : Nat} {tpos : Pos} {a b z TI TO i1 i2 : Addr} (D : ZipApart z TI TO i1 i2 a b) :
    Turn P w K (.Tuple elts kk tpos) (ItzN K a b) [z, TI, TO, i1, i2] z
      (fun i h => IsZip h z TI TO .none ∧ IsPair h TI (.ref i1) (.ref i2) ∧ (∃ x y, IsPair h TO x y) ∧ h.IsTupleIter i1 a i ∧ h.IsListIter i2 b i) where
  mem := by simp
  obj := by
    rintro i h ⟨hz, hTI, ⟨x, y, hTO⟩, ⟨o1, e1, _, d1⟩, ⟨o2, e2, _, d2⟩⟩ c hc
    simp only [List.mem_cons, List.not_mem_nil, or_false] at hc
    rcases hc with rfl | rfl | rfl | rfl | rfl
    · exact ⟨_, hz, fun v q => nomatch q⟩
    · exact ⟨_, hTI, fun v q => nomatch q⟩
    · exact ⟨_, hTO, fun v q => nomatch q⟩
    · exact ⟨o1, e1, fun v q => by rw [d1] at q; cases q⟩
    · exact ⟨o2, e2, fun v q => by rw [d2] at q; cases q⟩
  keep := by
    rintro i h h' ⟨hz, hTI, ⟨x, y, hTO⟩, h1, h2⟩ k
    exact ⟨k z (by simp) _ hz, k TI (by simp) _ hTI, ⟨x, y, k TO (by simp) _ hTO⟩, h1.at fun o q => k i1 (by simp) o q, h2.at fun o q => k i2 (by simp) o q⟩
  item := by
    intro X hP hw hK hc i pins s σ H E I hf st hg
    subst hP hw hK
    obtain ⟨hz, hTI, ⟨x0, y0, hTO⟩, h1, h2⟩ := st
    obtain ⟨xs, ys, x, y, hqx, hqy, hx, hy⟩ := hg
    obtain ⟨its, rv, p, _⟩ := I.tuple hqx
    obtain ⟨its2, rv2, p2, _⟩ := I.list hqy
    obtain ⟨u, hu, ru⟩ := rv.get hx
    obtain ⟨u2, hu2, ru2⟩ := rv2.get hy
    have hzl : z < s.heap.objs.size := Heap.lt_size hz
    have hl1 : i < its.toArray.size := by have := (List.getElem?_eq_some_iff.mp hu).1; simpa using this
    have hl2 : i < its2.toArray.size := by have := (List.getElem?_eq_some_iff.mp hu2).1; simpa using this
    refine wpAny_pyNext_zipD2_item (sepM D) (Draws.tuple (A := X.A.in1) (I.ok.hd hc) i1 a D.l1i1 its.toArray) (Draws.list (A := X.A.in1) (I.ok.hd hc) i2 b D.l2i2 its2.toArray) hz hTI hTO ⟨h1, p⟩ ⟨h2, p2.isList⟩ hl1 hl2 ?_
    intro v1 v2 h' tk hv1 hv2 z' TO' st1 st2 hT hsz hk
    have e1 : v1 = u := by
      have h3 : its.toArray[i]? = some u := by simpa using hu
      rw [show its.toArray[i]? = some v1 from hv1] at h3
      exact Option.some.inj h3
    have e2 : v2 = u2 := by
      have h3 : its2.toArray[i]? = some u2 := by simpa using hu2
      rw [show its2.toArray[i]? = some v2 from hv2] at h3
      exact Option.some.inj h3
    subst e1 e2
    refine ⟨_, rfl, wpAny_letOwnedTupleGo_zip (s := { s with heap := h', toks := tk }) z' fun h'' z'' sb => ?_⟩
    have hT2 : h''.get? s.heap.objs.size = some { cls := .type "tuple", data := .seq #[v1, v2] } := (sb.2 _ (Nat.ne_of_gt hzl)).trans hT
    have new : ObjOk X.prog X.w (upd H s.heap.objs.size (.tup [x, y])) h'' s.heap.objs.size (.tup [x, y]) :=
      ⟨by show 2 ≤ sizeLine; decide, [v1, v2], .cons ru (.cons ru2 .nil), ⟨_, hT2, rfl, _, rfl⟩⟩
    have kk : ∀ c o, c ∉ [z, TI, TO, i1, i2] → s.heap.get? c = some o → h''.get? c = some o := by
      intro c o hb q
      simp only [List.mem_cons, List.not_mem_nil, or_false, not_or] at hb
      exact (sb.2 c hb.1).trans (hk c o hb.1 hb.2.2.1 hb.2.2.2.1 hb.2.2.2.2 q)
    have I1 : Inv X pins σ (upd H s.heap.objs.size (.tup [x, y])) { s with heap := h'', toks := tk } :=
      I.turnedNew (t' := tk) (ch := [z, TI, TO, i1, i2]) kk hf (Nat.le_refl _) new
    refine ⟨.ref s.heap.objs.size, _, I1, rfl, ⟨_, x, y, rfl, I.hok.fresh (Nat.le_refl _), rfl, fun l hl => by rw [I.tuple_inj hl hqx]; exact hx, fun l hl => by rw [I.list_inj hl hqy]; exact hy⟩, ⟨z'', ?_, ⟨v1, v2, ?_⟩, ?_, ?_⟩, ?_⟩
    · exact (sb.2 _ D.TIz).trans (hk _ _ D.TIz D.TITO D.TIi1 D.TIi2 hTI)
    · exact (sb.2 _ D.TOz).trans TO'
    · exact st1.1.at fun o q => (sb.2 _ D.i1z).trans q
    · exact st2.1.at fun o q => (sb.2 _ D.i2z).trans q
    · intro c hcm
      have hlt : c < s.heap.objs.size := by
        simp only [List.mem_cons, List.not_mem_nil, or_false] at hcm
        rcases hcm with rfl | rfl | rfl | rfl | rfl
        · exact hzl
        · exact Heap.lt_size hTI
        · exact Heap.lt_size hTO
        · obtain ⟨_, e1, _⟩ := h1; exact Heap.lt_size e1
        · obtain ⟨_, e2, _⟩ := h2; exact Heap.lt_size e2
      rw [upd_ne (Nat.ne_of_lt hlt)]
      exact (hf c hcm).1
  done := by
    intro X hP hw hK hc i pins s σ H E I hf st hg
    subst hP hw hK
    obtain ⟨hz, hTI, ⟨x0, y0, hTO⟩, h1, h2⟩ := st
    obtain ⟨xs, ys, hqx, hqy, hend⟩ := hg
    obtain ⟨its, rv, p, _⟩ := I.tuple hqx
    obtain ⟨its2, rv2, p2, _⟩ := I.list hqy
    have l1 := rv.length
    have l2 := rv2.length
    refine wpAny_pyNext_zipD2_end (i := i) (sepM D) (Draws.tuple (A := X.A.in1) (I.ok.hd hc) i1 a D.l1i1 its.toArray) (Draws.list (A := X.A.in1) (I.ok.hd hc) i2 b D.l2i2 its2.toArray) hz hTI hTO ⟨h1, p⟩ ⟨h2, p2.isList⟩ (by simp; omega) (by simp; omega) (by simp; omega) ?_
    intro h' tk hk
    refine ⟨rfl, I.turnedL (t' := tk) (ch := [z, TI, TO, i1, i2]) ?_ hf⟩
    intro c o hb q
    simp only [List.mem_cons, List.not_mem_nil, or_false, not_or] at hb
    exact hk c o hb.1 hb.2.2.1 hb.2.2.2.1 hb.2.2.2.2 q
  self := fun A i s Q E st h => wpAny_pyIter_zip st.1 h
def iZipN (K : PySem.W.Frag) (ta : TA) : TI := fun σ H R => ta σ H fun vs H1 => ∃ a b xs ys, vs = [.ref a, .ref b] ∧ SqT K H1 a xs ∧ SqL K H1 b ys ∧ R (ItzN K a b) H1
theorem pi_zipN {X : Cx} {e e2 : Expr} {ta : TA} {p pos tpos : Pos} {elts : List Expr} {kk : Nat} (hg : Gl X "zip") (hm : X.mg "zip" = none) (ha : PA X [e, e2] ta)
    (hs : starEach [e, e2] X.env = (false, eval e X.env) :: starEach [e2] X.env := by rfl) (hpl : (backTo pos (starEach [e2] X.env)).any (·.1) = false := by rfl) :
    PI X (.Tuple elts kk tpos) (.Call (.Name "zip" p) [e, e2] [] pos) (iZipN X.K ta) := by
  constructor
  intro pins s σ H R I h
  refine Call_ (ld_blt I hg hm PyProof.Rows.boot_zip (PyProof.Rows.callWith_type1 (thn (ha.run pos pins s σ H _ I h) ?_) hs hpl))
  rintro us s1 ⟨vs, H1, I1, r1, a, b, xs, ys, rfl, hqx, hqy, q⟩
  obtain ⟨u, v, rfl, rfl, rfl⟩ := vals2 r1
  obtain ⟨its, rv, p1, _⟩ := I1.tuple hqx
  obtain ⟨its2, rv2, p2, _⟩ := I1.list hqy
  refine call_zipN (show s1.heap.IsTuple a its.toArray from p1) p2.isList fun h' hz hTI hTO h1 h2 hk => wpAny_pyIter_zip hz ?_
  have I2 : Inv X pins σ H1 { s1 with heap := h' } := I1.kept (t' := s1.toks) hk
  refine ⟨s1.heap.objs.size + 4, [s1.heap.objs.size + 4, s1.heap.objs.size + 2, s1.heap.objs.size + 3, s1.heap.objs.size, s1.heap.objs.size + 1], _, _, H1, rfl, I2,
    turn_zipN (PySem.W.ktu_apart s1.heap.objs.size a b (tupLt p1) p2.lt), ⟨hz, hTI, ⟨_, _, hTO⟩, h1, h2⟩, ?_, q⟩
  intro c hcm
  have hle : s1.heap.objs.size ≤ c := by
    simp only [List.mem_cons, List.not_mem_nil, or_false] at hcm
    rcases hcm with rfl | rfl | rfl | rfl | rfl <;> omega
  exact I1.fpOk hle (I1.hok.fresh hle)
theorem walk_zipN {K : PySem.W.Frag} {a b : Addr} {xs ys : List V} {n : Nat} (hn : n = min xs.length ys.length) :
    Walk (ItzN K a b) n (fun H => SqT K H a xs ∧ SqL K H b ys) (YPair (fun i => xs[i]?) (fun i => ys[i]?)) := by
  subst hn
  constructor
  · rintro i H hi ⟨q1, q2⟩
    have h1 : i < xs.length := by omega
    have h2 : i < ys.length := by omega
    exact ⟨xs, ys, xs[i], ys[i], q1, q2, by simp [h1], by simp [h2]⟩
  · rintro H ⟨q1, q2⟩
    exact ⟨xs, ys, q1, q2, rfl⟩
  · rintro i H v H' _ ⟨q1, q2⟩ ⟨T, x, z, h1, h2, h3, h4, h5⟩
    exact ⟨T, x, z, h1, h2, h3, h4 xs q1, h5 ys q2⟩
end Pv
namespace Pv
open PySem PySem.Spec PyProof.Rows L2
/-! errors of the program's own classes -/
abbrev VEbm : List Value := [.type "ValueError", .type "Exception", .type "BaseException", .type "object"]
/-- what is asked of a class whose errors isinstance is asked of -/
structure IsC (K : PySem.W.Frag) (D : Addr) : Prop where
  cl : (PySem.W.clsIn K D).isSome = true
  hg : PySem.W.findIn K (.ref D) "__getattribute__" = some (some (.builtin "BaseException.__getattribute__"))
  hk : PySem.W.findIn K (.ref D) "__getattr__" = some none
  hs : PySem.W.subIn K (.ref D) (.type "BaseException") = some true
  ty : PySem.W.typeIn K (.ref D) = some (.type "type")
  ha : PySem.W.findIn K (.ref D) "__class__" = some (some (.builtin "object.__class__"))
  hn : PySem.W.specialIn K (.builtin "object.__class__") "__get__" = some (some (.builtin "getset_descriptor.__get__"))
  ht : PySem.W.takesIn K (.builtin "object.__class__") = some true
  hm : PySem.W.mroIn K D (.type "object") = some true
  kp : PySem.W.keepIn K (.ref D) = true
def isCB (K : PySem.W.Frag) (D : Addr) : Bool :=
  (PySem.W.clsIn K D).isSome && (decide (PySem.W.findIn K (.ref D) "__getattribute__" = some (some (.builtin "BaseException.__getattribute__"))) && (decide (PySem.W.findIn K (.ref D) "__getattr__" = some none) &&
  (decide (PySem.W.subIn K (.ref D) (.type "BaseException") = some true) && (decide (PySem.W.typeIn K (.ref D) = some (.type "type")) && (decide (PySem.W.findIn K (.ref D) "__class__" = some (some (.builtin "object.__class__"))) &&
  (decide (PySem.W.specialIn K (.builtin "object.__class__") "__get__" = some (some (.builtin "getset_descriptor.__get__"))) && (decide (PySem.W.takesIn K (.builtin "object.__class__") = some true) &&
  (decide (PySem.W.mroIn K D (.type "object") = some true) && PySem.W.keepIn K (.ref D)))))))))
theorem isCB_ok {K : PySem.W.Frag} {D : Addr} (h : isCB K D = true) : IsC K D := by
  simp only [isCB, Bool.and_eq_true, decide_eq_true_eq] at h
  obtain ⟨h1, h2, h3, h4, h5, h6, h7, h8, h9, h10⟩ := h
  exact ⟨h1, h2, h3, h4, h5, h6, h7, h8, h9, h10⟩
theorem IsC.raises {X : Cx} {D : Addr} (c : IsC X.K D) : Raises X (.ref D) := raises_own c.hs c.ty
/-- isinstance(e, c), e the error that the suite holds, c a class or a tuple of classes -/
def rIsX (K : PySem.W.Frag) (a : Addr) (cls : Value) (d : Option Addr) : RC := fun xs H Q => ∃ (D : Addr) (c : V) (b : Bool), cls = .ref D ∧ IsC K D ∧ (∀ dx, d = some dx → ∃ fs, H dx = some (.xd fs)) ∧ xs = [.ref a, c] ∧
  ((∃ u, ClsV c u ∧ PySem.W.kitOne K (.ref D) u = some b) ∨ ∃ (tp : Addr) (cs : List V) (us : List Value), c = .ref tp ∧ H tp = some (.tup cs) ∧ Paired ClsV cs us ∧ PySem.W.kitAny K (.ref D) us = some b) ∧ Q (.bl b) H
theorem call_isX {X : Cx} {a : Addr} {oe : Obj} {cls : Value} {d : Option Addr} {pn : List (Addr × Obj)} (hz : Zc cls d oe) (hf : ∃ vs, oe.data = .fields vs) : CallR (X.suite a ((a, oe) :: pn)) (.builtin "isinstance") (rIsX X.K a cls d) := by
  intro pins s σ H xs us Q I r h
  obtain ⟨D, c, b, rfl, C, hdx, rfl, hc, q⟩ := h
  obtain ⟨u1, u2, rfl, r1, r2⟩ := vals2 r
  cases (show u1 = Value.ref a from r1)
  obtain ⟨hget, _⟩ := I.pin (a, oe) (List.mem_append.mpr (.inl List.mem_cons_self))
  obtain ⟨vs, hv⟩ := hf
  have J : ∃ od, PySem.W.InstAt s.heap a oe D od := by
    cases d with
    | none =>
      refine ⟨none, hget, hz.1, by unfold PySem.W.notCls; rw [hv] <;> rfl, ?_⟩
      rw [hz.2]; trivial
    | some dx =>
      obtain ⟨fs, e⟩ := hdx dx rfl
      have hx : ObjOk X.prog X.w H s.heap dx (.xd fs) := I.hok dx _ e
      obtain ⟨mA, hns, _⟩ := hx
      obtain ⟨od, ho, _⟩ := lookIn_ns hns
      exact ⟨some od, hget, hz.1, by unfold PySem.W.notCls; rw [hv] <;> rfl, by rw [hz.2]; exact ho⟩
  obtain ⟨od, J⟩ := J
  have Z := PySem.W.kitx_exc (K := X.K) (x := a) (C := D) (ox := oe) (od := od) C.cl C.hg C.hk C.hs C.ha C.hn C.ht C.hm
  rcases hc with ⟨u, ku, e⟩ | ⟨tp, cs, ws, rfl, hT, ks, e⟩
  · have e2 := ku.eq r2
    subst e2
    exact PySem.W.kia_one Z I.kIn J e (fun z => nomatch z) fun tk => ⟨.bl b, H, I.kept (t' := tk) fun _ _ z => z, rfl, q⟩
  · cases (show u2 = Value.ref tp from r2)
    obtain ⟨_, its, rv, o, h1, h2, n, h3⟩ := (show ObjOk X.prog X.w H s.heap tp (.tup cs) from I.hok tp _ hT)
    have e3 := ClsV.all ks rv
    subst e3
    obtain ⟨oc, od', dt, sl⟩ := o
    simp only at h2 h3
    subst h2 h3
    exact PySem.W.kia_tup Z I.kIn J h1 e (fun z => nomatch z) fun tk => ⟨.bl b, H, I.kept (t' := tk) fun _ _ z => z, rfl, q⟩
end Pv
namespace Pv
open PySem PySem.Spec PyProof.Rows L2
/-! an error with one field of its own -/
def inCls (st : Stmt) (i : Nat) : Stmt := match st with
  | .ClassDef _ _ _ body _ _ _ _ _ _ _ => body.getD i (.Pass ⟨0, 0, 0, 0⟩)
  | _ => .Pass ⟨0, 0, 0, 0⟩
def spI1 (C : Addr) (fld : Str) : Sp := fun vs H Q _ => ∃ (a : Addr) (v : V), vs = [.ref a, v] ∧ H a = some (exo a C none) ∧ ∀ dx, H dx = none → dx ≠ a → Q .non (upd (upd H dx (exd dx [(fld, v)])) a (exo a C (some dx)))
/-- what the written part says of such a class -/
structure XF (K : PySem.W.Frag) (C fI : Addr) (fld : Str) : Prop where
  T : OexC K C
  iC : PySem.W.findIn K (.ref C) "__init__" = some (some (.ref fI))
  tI : PySem.W.typeIn K (.ref fI) = some (.type "function")
  no : PySem.W.findIn K (.ref C) fld = some none
  rd : XfC K C
def xf1B (K : PySem.W.Frag) (C fI : Addr) (fld : Str) : Bool :=
  decide (PySem.W.findIn K (.ref C) "__setattr__" = some (some (.builtin "object.__setattr__"))) && (decide (PySem.W.subIn K (.ref C) (.type "BaseException") = some true) && (decide (PySem.W.typeIn K (.ref C) = some (.type "type")) && (PySem.W.keepIn K (.ref C) &&
  (decide (PySem.W.findIn K (.ref C) "__init__" = some (some (.ref fI))) && (decide (PySem.W.typeIn K (.ref fI) = some (.type "function")) && (decide (PySem.W.findIn K (.ref C) fld = some none) && xfB K C))))))
theorem xf1B_ok {K : PySem.W.Frag} {C fI : Addr} {fld : Str} (h : xf1B K C fI fld = true) (c : ∃ nm q N bs bm sn sub ab col dd k0 k1 k2 k3 k5, K.lookup C = some (excClassObj nm q C N bs bm true sn sub ab col dd k0 k1 k2 k3 k5 "ValueError.__new__") ∧ PySem.HandSPX.refsVE bm = true) : XF K C fI fld := by
  simp only [xf1B, Bool.and_eq_true, decide_eq_true_eq] at h
  obtain ⟨h1, h2, h3, h4, h5, h6, h7, h8⟩ := h
  exact ⟨⟨c, h1, h2, h3, h4⟩, h5, h6, h7, xfB_ok h8⟩
end Pv
namespace Pv
open PySem PySem.Spec PyProof.Rows L2
/-! the same for a class right under LookupError -/
abbrev LEbm : List Value := [.type "LookupError", .type "Exception", .type "BaseException", .type "object"]
structure OeL (K : PySem.W.Frag) (C : Addr) : Prop where
  cls : ∃ nm q N bs sn sub ab col dd k0 k1 k2 k3 k5, K.lookup C = some (excClassObj nm q C N bs LEbm true sn sub ab col dd k0 k1 k2 k3 k5 "LookupError.__new__")
  sa : PySem.W.findIn K (.ref C) "__setattr__" = some (some (.builtin "object.__setattr__"))
  exC : PySem.W.subIn K (.ref C) (.type "BaseException") = some true
  tyC : PySem.W.typeIn K (.ref C) = some (.type "type")
  kC : PySem.W.keepIn K (.ref C) = true
section
open PySem.HandSPX Builtin Builtin.ObjectAttr
variable {prog : Program} {w : World} {A : Around} {R : Result → Shared → Prop} {hp : Heap} {g : Array GenState} {d : Drawn} {t : Nat} {os : OsState}
end
section
variable {X : Cx} {pins : List (Addr × Obj)} {σ : L2.St} {H : Hp} {s : Shared} {a C : Addr} {f : Str} {y : V} {u : Value} {Q : Unit → Shared → Prop} {E : Value → Shared → Prop} {A : Around}
end
def tOstL (K : PySem.W.Frag) (f : Str) (to te : TE) : TS := fun D σ H => te σ H fun y H1 => to σ H1 fun x H2 => ∃ a C : Addr, x = .ref a ∧ OeL K C ∧ PySem.W.findIn K (.ref C) f = some none ∧ H2 a = some (exo a C none) ∧
  ∀ dx, H2 dx = none → dx ≠ a → D.nx σ (upd (upd H2 dx (exd dx [(f, y)])) a (exo a C (some dx)))
section
variable {X : Cx} {o e : Expr} {es : List Expr} {to te : TE} {ta : TA} {f x : Str} {p p' pos : Pos}
end
structure XL (K : PySem.W.Frag) (C fI : Addr) (fld : Str) : Prop where
  T : OeL K C
  iC : PySem.W.findIn K (.ref C) "__init__" = some (some (.ref fI))
  tI : PySem.W.typeIn K (.ref fI) = some (.type "function")
  no : PySem.W.findIn K (.ref C) fld = some none
  rd : XfC K C
end Pv
namespace Pv
open PySem PySem.Spec PyProof.Rows L2
/-! several clauses, each with a name for the error -/
abbrev Clause := Value × Nat × (Addr → Value → Option Addr → TS)
def endsOf (D : Ends) (i : Nat) : Ends := { nx := fun σ H => D.nx (σ.set i none) H, rt := D.rt, bk := fun σ H => D.bk (σ.set i none) H, ct := fun σ H => D.ct (σ.set i none) H }
def wClauses (K : PySem.W.Frag) (Wout : WX) (D : Ends) : List Clause → WX
  | [] => Wout
  | (c, i, ts) :: r => fun cls d σ H => ∃ b, PySem.W.exmOne K cls c = some b ∧ (b = true → ∀ a, H a = none → ts a cls d (endsOf D i) (σ.set i (some (.ref a))) H) ∧ (b = false → wClauses K Wout D r cls d σ H)
inductive Clauses (X : Cx) : List ExceptHandler → List Clause → Prop
  | nil : Clauses X [] []
  | cons {x n : Str} {c : Value} {i : Nat} {ts : Addr → Value → Option Addr → TS} {b₀ : Stmt} {suite : List Stmt} {np pos' : Pos} {hds : List ExceptHandler} {l : List Clause} (hi : X.N[i]? = some n) (hl : X.env.kindOf n = some .local) (hc : Names X x c)
      (hsu : ∀ (a : Addr) (oe : Obj) (cls : Value) (d : Option Addr) (pn : List (Addr × Obj)), Zc cls d oe → (∃ vs, oe.data = .fields vs) → PSs (X.suite a ((a, oe) :: pn)) (b₀ :: suite) (ts a cls d)) (r : Clauses X hds l) :
      Clauses X (.ExceptHandler (some (.Name x np)) (some n) (b₀ :: suite) pos' :: hds) ((c, i, ts) :: l)
section
variable {X : Cx} {body : List Stmt} {h₀ : ExceptHandler} {hds : List ExceptHandler} {l : List Clause} {pos : Pos} {tb : WX → TS} {Wout : WX}
end
/-! a call of one of several defs, whichever the expression hands out -/
structure Callee (P : Program) (w : World) (K : PySem.W.Frag) (mg : Str → Option Value) (base : Heap) (CX : CXT) (k : Nat) (f : Addr) (sp : Sp) : Prop where
  ok : ∃ fd ps, FnOk P w K mg base CX k f fd ps sp ∧ Binds K fd ps []
  kp : PySem.W.keepIn K (.ref f) = true
def tCallV (tbl : List (Addr × Sp)) (E : L2.St → XK) (tf : TE) (t : TA) : TE := fun σ H Q => tf σ H fun x H1 => ∃ (f : Addr) (sp : Sp), (f, sp) ∈ tbl ∧ x = .ref f ∧ t σ H1 fun vs H2 => sp vs H2 Q (E σ)
end Pv
namespace Pv
open PySem PySem.Spec PyProof.Rows L2
/-! an error with two fields of its own -/
def spI2 (C : Addr) (f1 f2 : Str) : Sp := fun vs H Q _ => ∃ (a : Addr) (v w : V), vs = [.ref a, v, w] ∧ H a = some (exo a C none) ∧ ∀ dx, H dx = none → dx ≠ a → Q .non (upd (upd H dx (exd dx [(f2, w), (f1, v)])) a (exo a C (some dx)))
theorem mkO2 {C : Addr} {f1 f2 : Str} {v w : V} {H1 : Hp} {Q : XK} (h : ∀ d, H1 d = none → Q (.ref C) (some d) (upd H1 d (.xd [(f2, w), (f1, v)]))) :
    [v, w].length ≤ 1000 ∧ ∀ a, H1 a = none → spI2 C f1 f2 (.ref a :: ([v, w] ++ [])) (upd H1 a (exo a C none))
      (fun v' H2 => v' = .non ∧ ∃ (d : Addr) (fs : List (Str × V)), H2 a = some (exo a C (some d)) ∧ H2 d = some (exd d fs) ∧ H1 d = none ∧ Q (.ref C) (some d) (upd (del H2 a) d (.xd fs))) (fun _ _ _ => False) := by
  refine ⟨by simp, fun a na => ⟨a, v, w, rfl, upd_same, fun dx nd ne => ⟨rfl, dx, [(f2, w), (f1, v)], upd_same, ?_, ?_, ?_⟩⟩⟩
  · rw [upd_ne ne]; exact upd_same
  · rw [upd_ne ne] at nd; exact nd
  · have nd1 : H1 dx = none := by rw [upd_ne ne] at nd; exact nd
    have e : upd (del (upd (upd (upd H1 a (exo a C none)) dx (exd dx [(f2, w), (f1, v)])) a (exo a C (some dx))) a) dx (.xd [(f2, w), (f1, v)]) = upd H1 dx (.xd [(f2, w), (f1, v)]) := by
      funext b
      by_cases hb : b = dx
      · rw [hb, upd_same, upd_same]
      · rw [upd_ne hb, upd_ne hb]
        by_cases ha : b = a
        · rw [ha, del_same, na]
        · rw [del_ne ha, upd_ne ha, upd_ne hb, upd_ne ha]
    rw [e]
    exact h dx nd1
structure XF2 (K : PySem.W.Frag) (C fI : Addr) (f1 f2 : Str) : Prop where
  T : OexC K C
  iC : PySem.W.findIn K (.ref C) "__init__" = some (some (.ref fI))
  tI : PySem.W.typeIn K (.ref fI) = some (.type "function")
  no1 : PySem.W.findIn K (.ref C) f1 = some none
  no2 : PySem.W.findIn K (.ref C) f2 = some none
  rd : XfC K C
def xf2B (K : PySem.W.Frag) (C fI : Addr) (f1 f2 : Str) : Bool := xf1B K C fI f1 && decide (PySem.W.findIn K (.ref C) f2 = some none)
theorem xf2B_ok {K : PySem.W.Frag} {C fI : Addr} {f1 f2 : Str} (h : xf2B K C fI f1 f2 = true) (c : ∃ nm q N bs bm sn sub ab col dd k0 k1 k2 k3 k5, K.lookup C = some (excClassObj nm q C N bs bm true sn sub ab col dd k0 k1 k2 k3 k5 "ValueError.__new__") ∧ PySem.HandSPX.refsVE bm = true) : XF2 K C fI f1 f2 := by
  simp only [xf2B, Bool.and_eq_true, decide_eq_true_eq] at h
  have x := xf1B_ok h.1 c
  exact ⟨x.T, x.iC, x.tI, x.no, h.2, x.rd⟩
end Pv
set_option maxHeartbeats 1000000
/-! zip(*rows) over tuples, a name as the target -/
namespace ZL
open PySem
abbrev ZAt (h : Heap) (z TI TO : Addr) (f0 : Value) (f1 : Bool) : Prop :=
  h.get? z = some { cls := .type "zip", dict := none, data := .fields #[f0, .bool f1, .bool false, .ref TI, .ref TO], slots := #[] }
abbrev TAt (h : Heap) (T : Addr) (xs : List Value) : Prop := h.get? T = some { cls := .type "tuple", data := .seq xs.toArray }
def itsOf (b n : Nat) : List Value := (List.range n).map fun k => .ref (b + k)
theorem its_len (b n : Nat) : (itsOf b n).length = n := by simp [itsOf]
theorem its_at {b n k : Nat} (h : k < n) : (itsOf b n)[k]? = some (.ref (b + k)) := by simp [itsOf, h]
/-- where the zip's own objects stand: the iterators from b on, then the tuple of them, the tuple it keeps, the zip -/
structure St0 (h : Heap) (b : Nat) (rows : List Addr) (f0 : Value) (f1 : Bool) (at_ : Nat → Nat) : Prop where
  zip : ZAt h (b + rows.length + 2) (b + rows.length) (b + rows.length + 1) f0 f1
  ti : TAt h (b + rows.length) (itsOf b rows.length)
  to : ∃ kept : List Value, kept.length = rows.length ∧ TAt h (b + rows.length + 1) kept
  it : ∀ (k : Nat) (row : Addr), rows[k]? = some row → h.IsListIter (b + k) row (at_ k)
/-- what is not the zip's own stays -/
def Off (b n : Nat) (h h' : Heap) : Prop := ∀ c o, (c < b ∨ b + n + 2 < c) → h.get? c = some o → h'.get? c = some o
theorem Off.refl (b n : Nat) (h : Heap) : Off b n h h := fun _ _ _ e => e
theorem Off.trans {b n : Nat} {h h1 h2 : Heap} (x : Off b n h h1) (y : Off b n h1 h2) : Off b n h h2 := fun c o r e => y c o r (x c o r e)
theorem Off.but {b n c0 : Nat} {h h' : Heap} (e : Heap.SameBut c0 h h') (hc : b ≤ c0 ∧ c0 ≤ b + n + 2) : Off b n h h' := fun c o r x => by
  rw [e.2 c (fun z => by subst z; omega)]; exact x
section
variable {prog : Program} {w : World} {A : Around} {E : Value → Shared → Prop} {s : Shared}
theorem alive {a : Addr} {Q : Option Obj → Shared → Prop} (h : Q (s.heap.get? a) s) : wpAny (model prog w) A (loadIfAlive a) Q E s := by
  intro Γ p hΓ
  unfold loadIfAlive
  rw [Sem.wp_loadIfAlive]
  exact wpAny_pure h Γ p hΓ
theorem nextOf_item {it l : Addr} {i : Nat} {items} {x : Value} {Q : Value → Shared → Prop} (hit : s.heap.IsListIter it l i) (hl : s.heap.IsList l items) (hx : items[i]? = some x)
    (hQ : ∀ h', h'.IsListIter it l (i + 1) → Heap.SameBut it s.heap h' → Q x { s with heap := h' }) : wpAny (model prog w) A (Builtin.SmallTypes.nextOf (.ref it)) Q E s := wpAny_nextOf_list_item hit hl hx hQ
/-- the draws, one iterator after another, into the tuple that the zip keeps -/
structure Half (s : Shared) (b : Nat) (rows : List Addr) (i : Nat) (col : List Value) (f0 : Value) (f1 : Bool) (k : Nat) (s' : Shared) : Prop where
  ex : ∃ h', s' = { s with heap := h' } ∧ h'.objs.size = s.heap.objs.size ∧ Off b rows.length s.heap h' ∧ ZAt h' (b + rows.length + 2) (b + rows.length) (b + rows.length + 1) f0 f1 ∧ TAt h' (b + rows.length) (itsOf b rows.length) ∧
    (∃ kept : List Value, kept.length = rows.length ∧ TAt h' (b + rows.length + 1) kept ∧ kept.take k = col.take k) ∧ ∀ (j : Nat) (row : Addr), rows[j]? = some row → h'.IsListIter (b + j) row (if j < k then i + 1 else i)
theorem ne_nat {a b : Nat} (h : ¬ (a = b)) : (show Addr from a) ≠ (show Addr from b) := h
theorem tuple_off {b n : Nat} {h h' : Heap} {l : Addr} {items : Array Value} (x : Off b n h h') (hl : l < b) (ht : h.IsList l items) : h'.IsList l items := by
  obtain ⟨o, ho, r⟩ := ht
  exact ⟨o, x l o (.inl hl) ho, r⟩
end
end ZL
namespace ZL
open PySem
section
variable {prog : Program} {w : World} {A : Around} {E : Value → Shared → Prop} {s : Shared}
theorem own_free {z TI TO : Addr} {f0 : Value} {f1 : Bool} (hz : ZAt s.heap z TI TO f0 f1) (hf : f0 = .none ∨ ∃ a : Nat, f0 = rawInt a) :
    wpAny (model prog w) A (Builtin.SmallTypes.ownedTupleIsFree (.ref z)) (fun r s' => (r = true ∧ s' = s) ∨ (r = false ∧ ∃ h', s' = { s with heap := h' } ∧ ZAt h' z TI TO f0 true ∧ Heap.SameBut z s.heap h')) E s := by
  unfold Builtin.SmallTypes.ownedTupleIsFree
  rcases hf with rfl | ⟨a, rfl⟩
  · exact wpAny_bind (wpAny_field hz rfl (x := .none) rfl (wpAny_pure (.inl ⟨rfl, rfl⟩)))
  · refine wpAny_bind (wpAny_field hz rfl (x := rawInt a) rfl ?_)
    show wpAny _ _ (loadIfAlive (Int.toNat a) >>= _) _ _ _
    refine wpAny_bind (alive ?_)
    rw [Int.toNat_natCast]
    cases e : s.heap.get? a with
    | none => exact wpAny_pure (.inl ⟨rfl, rfl⟩)
    | some o =>
      show wpAny _ _ (field (.ref z) 1 >>= _) _ _ _
      refine wpAny_bind (wpAny_field hz rfl (x := .bool f1) rfl ?_)
      cases f1 with
      | true => exact wpAny_pure (.inr ⟨rfl, s.heap, rfl, hz, ⟨rfl, fun _ _ => rfl⟩⟩)
      | false =>
        show wpAny _ _ (setField (.ref z) 1 (.bool true) >>= _) _ _ _
        exact wpAny_bind (wpAny_setField_rec hz (by simp) fun h' hz' hs' => wpAny_pure (.inr ⟨rfl, h', rfl, hz', hs'⟩))
theorem cons_drop {α : Type} {x : α} {rest L : List α} {k : Nat} (e : x :: rest = L.drop k) : L[k]? = some x ∧ rest = L.drop (k + 1) := by
  constructor
  · have := List.getElem?_drop (xs := L) (i := k) (j := 0)
    rw [← e] at this
    simpa using this.symm
  · rw [← List.drop_drop, ← e]; rfl
theorem zipIdx_at {b n k : Nat} {x : Value × Nat} (h : ((itsOf b n).zipIdx)[k]? = some x) : x = (.ref (b + k), k) ∧ k < n := by
  rw [List.getElem?_zipIdx] at h
  cases e : (itsOf b n)[k]? with
  | none => rw [e] at h; simp at h
  | some v =>
    have hk : k < n := by have := (List.getElem?_eq_some_iff.mp e).1; rw [its_len] at this; exact this
    rw [its_at hk] at e
    cases e
    rw [its_at hk] at h
    simp at h
    exact ⟨h.symm, hk⟩
set_option maxHeartbeats 4000000 in
theorem next_item {b : Nat} {rows : List Addr} {f0 : Value} {f1 : Bool} {i : Nat} {col : List Value} {Q : Value → Shared → Prop} (st : St0 s.heap b rows f0 f1 (fun _ => i)) (hf : f0 = .none ∨ ∃ a : Nat, f0 = rawInt a) (hn : 0 < rows.length) (hn2 : rows.length ≤ 1000)
    (hr : ∀ row ∈ rows, row < b) (hc : col.length = rows.length) (hx : ∀ (k : Nat) (row : Addr), rows[k]? = some row → ∃ (items : Array Value) (x : Value), s.heap.IsList row items ∧ items[i]? = some x ∧ col[k]? = some x)
    (hQ : ∀ h' f0' f1', St0 h' b rows f0' f1' (fun _ => i + 1) → (f0' = .none ∨ ∃ a : Nat, f0' = rawInt a) → TAt h' s.heap.objs.size col → h'.objs.size = s.heap.objs.size + 1 → Off b rows.length s.heap h' → Q (.ref s.heap.objs.size) { s with heap := h' }) :
    wpAny (model prog w) A (Builtin.«zip.__next__» ⟨[.ref (b + rows.length + 2)], []⟩) (fun fin s' => ∃ v, fin = .done (.ret v) ∧ Q v s') E s := by
  show wpAny _ _ (field (.ref (b + rows.length + 2)) 2 >>= _) _ _ _
  refine wpAny_bind (wpAny_field st.zip rfl (x := .bool false) rfl ?_)
  show wpAny _ _ (field (.ref (b + rows.length + 2)) 3 >>= _) _ _ _
  refine wpAny_bind (wpAny_field st.zip rfl (x := .ref (b + rows.length)) rfl ?_)
  refine wpAny_bind (wpAny_seqItems st.ti rfl ?_)
  have hem : (itsOf b rows.length).toArray.isEmpty = false := by
    have := its_len b rows.length
    cases e : itsOf b rows.length with
    | nil => rw [e] at this; simp at this; omega
    | cons _ _ => rfl
  dsimp only
  rw [if_neg (by rw [hem]; exact Bool.false_ne_true)]
  refine wpAny_bind (wpAny_mono (own_free st.zip hf) (fun r s1 h1 => ?_) (fun _ _ x => x))
  have hlt : b + rows.length + 2 < s.heap.objs.size := Heap.lt_size st.zip
  rcases h1 with ⟨rfl, rfl⟩ | ⟨rfl, h1, rfl, hz1, hs1⟩
  · -- the tuple that it keeps is free
    rw [if_pos rfl]
    refine wpAny_bind (wpAny_rule ?_)
    refine wpAny_bind (wpAny_field st.zip rfl (x := .ref (b + rows.length + 1)) rfl ?_)
    refine wpAny_bind (wpAny_setField_rec st.zip (by simp) fun h2 hz2 hs2 => ?_)
    replace hz2 : ZAt h2 (b + rows.length + 2) (b + rows.length) (b + rows.length + 1) .ellipsis f1 := hz2
    refine wpAny_bind (wpAny_mono (wpAny_forIn_list _ (fun rest bb s' => ∃ k, rest = ((itsOf b rows.length).zipIdx).drop k ∧ bb = (none, ()) ∧ Half s1 b rows i col .ellipsis f1 k s')
      (fun bb s' => bb = (none, ()) ∧ Half s1 b rows i col .ellipsis f1 rows.length s') ?turn ?fin _ _ ?start) ?after (fun _ _ x => x))
    case start =>
      obtain ⟨kept, hk1, hk2⟩ := st.to
      refine ⟨0, rfl, rfl, ⟨h2, rfl, hs2.1, Off.but hs2 (by omega), hz2, ?_, ⟨kept, hk1, ?_, by simp⟩, fun j row hj => ?_⟩⟩
      · show h2.get? _ = _
        rw [hs2.2 _ (ne_nat (by omega))]; exact st.ti
      · show h2.get? _ = _
        rw [hs2.2 _ (ne_nat (by omega))]; exact hk2
      · have hj' := (List.getElem?_eq_some_iff.mp hj).1
        obtain ⟨o, ho, r⟩ := st.it j row hj
        exact ⟨o, by rw [hs2.2 _ (ne_nat (by omega))]; exact ho, by simpa using r⟩
    case fin =>
      rintro bb s' ⟨k, e, rfl, hh⟩
      refine ⟨rfl, ?_⟩
      have hk : rows.length ≤ k := by
        have := congrArg List.length e
        rw [List.length_drop, List.length_zipIdx, its_len] at this
        simp at this
        omega
      obtain ⟨h', e1, e2, e3, e4, e5, ⟨kept, e6, e7, e8⟩, e9⟩ := hh.ex
      refine ⟨h', e1, e2, e3, e4, e5, ⟨kept, e6, e7, ?_⟩, fun j row hj => ?_⟩
      · rw [List.take_of_length_le (by omega), List.take_of_length_le (by omega)] at e8 ⊢
        exact e8
      · have := e9 j row hj
        have hj' := (List.getElem?_eq_some_iff.mp hj).1
        rw [if_pos (show j < k by omega)] at this
        rw [if_pos hj']; exact this
    case turn =>
      rintro x rest bb s' ⟨k, e, rfl, hh⟩
      obtain ⟨e1, e2⟩ := cons_drop e
      obtain ⟨rfl, hk⟩ := zipIdx_at e1
      obtain ⟨h', rfl, hsz, hoff, hz', hti', ⟨kept, hk1, hk2, hk3⟩, hits⟩ := hh.ex
      obtain ⟨row, hrow⟩ : ∃ row, rows[k]? = some row := ⟨rows[k], List.getElem?_eq_getElem hk⟩
      obtain ⟨items, v, hI, hv, hcv⟩ := hx k row hrow
      have hit := hits k row hrow
      rw [if_neg (Nat.lt_irrefl _)] at hit
      dsimp only
      refine wpAny_bind (wpAny_onRaise ?_)
      show wpAny _ _ (Builtin.SmallTypes.nextOf (.ref (b + k)) >>= _) _ _ _
      refine wpAny_bind (nextOf_item (s := { s1 with heap := h' }) hit (tuple_off hoff (hr row (List.mem_of_getElem? hrow)) hI) hv fun h3 hit3 hs3 => wpAny_pure ?_)
      dsimp only
      have hto3 : TAt h3 (b + rows.length + 1) kept := by
        show h3.get? _ = _
        rw [hs3.2 _ (ne_nat (by omega))]; exact hk2
      refine wpAny_bind (wpAny_seqItems (s := { s1 with heap := h3 }) hto3 rfl ?_)
      dsimp only
      refine wpAny_bind (wpAny_updateSeq (s := { s1 with heap := h3 }) hto3 rfl ?_ (by rw [List.size_toArray]; have := Pv.rLenQ; exact Nat.le_trans (by omega) (show 1000 ≤ sizeLine by decide)) (by simp only [Array.size_setIfInBounds, List.size_toArray]; exact Nat.le_trans (by omega) (show 1000 ≤ sizeLine + 1 by decide)))
      refine wpAny_bind (wpAny_letGo (wpAny_pure ?_))
      have hs4 : Heap.SameBut (b + rows.length + 1) h3 (h3.update (b + rows.length + 1) (Obj.mapSeq fun x => x.setIfInBounds k v)) := Heap.SameBut.update ..
      generalize hh4 : h3.update (b + rows.length + 1) (Obj.mapSeq fun x => x.setIfInBounds k v) = h4 at hs4
      have hto4 : TAt h4 (b + rows.length + 1) (kept.set k v) := by
        show h4.get? _ = _
        rw [← hh4, Heap.get?_update_self _ hto3 rfl]
        simp [Obj.mapSeq]
      refine ⟨k + 1, e2, rfl, ⟨h4, rfl, ?_, ?_, ?_, ?_, ⟨kept.set k v, ?_, hto4, ?_⟩, fun j row' hj => ?_⟩⟩
      · rw [hs4.1, hs3.1]; exact hsz
      · exact hoff.trans ((Off.but hs3 (by omega)).trans (Off.but hs4 (by omega)))
      · show h4.get? _ = _
        rw [hs4.2 _ (ne_nat (by omega)), hs3.2 _ (ne_nat (by omega))]; exact hz'
      · show h4.get? _ = _
        rw [hs4.2 _ (ne_nat (by omega)), hs3.2 _ (ne_nat (by omega))]; exact hti'
      · rw [List.length_set]; exact hk1
      · rw [List.take_add_one, List.take_add_one, hcv, List.getElem?_set_self (by omega), ← hk3, List.take_set_of_le (Nat.le_refl _)]
      · have hj' := (List.getElem?_eq_some_iff.mp hj).1
        by_cases hjk : j = k
        · subst hjk
          rw [hrow] at hj
          cases hj
          rw [if_pos (Nat.lt_succ_self _)]
          obtain ⟨o, ho, r⟩ := hit3
          exact ⟨o, by rw [hs4.2 _ (ne_nat (by omega))]; exact ho, r⟩
        · obtain ⟨o, ho, r⟩ := hits j row' hj
          refine ⟨o, by rw [hs4.2 _ (ne_nat (by omega)), hs3.2 _ (fun z => hjk (Nat.add_left_cancel z))]; exact ho, ?_⟩
          by_cases hlt' : j < k
          · rw [if_pos hlt'] at r; rw [if_pos (show j < k + 1 by omega)]; exact r
          · rw [if_neg hlt'] at r; rw [if_neg (show ¬ j < k + 1 by omega)]; exact r
    case after =>
      rintro bb s' ⟨rfl, hh⟩
      obtain ⟨h', rfl, hsz, hoff, hz', hti', ⟨kept, hk1, hk2, hk3⟩, hits⟩ := hh.ex
      rw [List.take_of_length_le (by omega), List.take_of_length_le (by omega)] at hk3
      subst hk3
      dsimp only
      refine wpAny_bind (wpAny_seqItems (s := { s1 with heap := h' }) hk2 rfl ?_)
      dsimp only
      refine wpAny_bind (wpAny_newTuple (s := { s1 with heap := h' }) ?_ (by show kept.toArray.toList.length ≤ sizeLine; rw [List.toList_toArray]; exact Nat.le_trans (show kept.length ≤ 1000 by omega) (by decide)))
      dsimp only
      rw [hsz]
      refine wpAny_bind ?_
      unfold Builtin.SmallTypes.ownedTupleHandOut
      have hz6 : ZAt (h'.push { cls := .type "tuple", data := .seq kept.toArray.toList.toArray }) (b + rows.length + 2) (b + rows.length) (b + rows.length + 1) .ellipsis f1 := Heap.get?_push_of_some _ hz'
      refine wpAny_bind (wpAny_setField_rec (s := { s1 with heap := h'.push { cls := .type "tuple", data := .seq kept.toArray.toList.toArray } }) hz6 (by simp) fun h7 hz7 hs7 => ?_)
      replace hz7 : ZAt h7 (b + rows.length + 2) (b + rows.length) (b + rows.length + 1) (rawInt s1.heap.objs.size) f1 := hz7
      refine wpAny_setField_rec (s := { s1 with heap := h7 }) hz7 (by simp) fun h8 hz8 hs8 => ?_
      replace hz8 : ZAt h8 (b + rows.length + 2) (b + rows.length) (b + rows.length + 1) (rawInt s1.heap.objs.size) false := hz8
      have up : ∀ c o, c ≠ b + rows.length + 2 → h'.get? c = some o → h8.get? c = some o := fun c o c1 e => by
        rw [hs8.2 _ c1, hs7.2 _ c1]; exact Heap.get?_push_of_some _ e
      refine wpAny_pure ⟨_, rfl, hQ h8 _ false ⟨hz8, up _ _ (ne_nat (by omega)) hti', ⟨kept, hk1, up _ _ (ne_nat (by omega)) hk2⟩, fun k row hk => ?_⟩ (.inr ⟨_, rfl⟩) ?_ ?_ ?_⟩
      · have hk' := (List.getElem?_eq_some_iff.mp hk).1
        have := hits k row hk
        rw [if_pos hk'] at this
        obtain ⟨o, ho, r⟩ := this
        exact ⟨o, up _ _ (ne_nat (by omega)) ho, r⟩
      · show h8.get? _ = _
        rw [hs8.2 _ (ne_nat (by omega)), hs7.2 _ (ne_nat (by omega)), ← hsz]
        exact Heap.get?_push_size _ rfl
      · rw [hs8.1, hs7.1, Heap.size_push, hsz]
      · intro c o r e
        exact up c o (ne_nat (by omega)) (hoff c o r e)
  · -- it is not
    rw [if_neg Bool.false_ne_true]
    have hti1 : TAt h1 (b + rows.length) (itsOf b rows.length) := by
      show h1.get? _ = _
      rw [hs1.2 _ (ne_nat (by omega))]; exact st.ti
    try dsimp only
    refine wpAny_bind (wpAny_mono (MeetsSeq2.wpAny_forIn_array _ (fun rest bb s' => ∃ k, rest = (itsOf b rows.length).drop k ∧ bb = (none, (col.take k).toArray) ∧ ∃ h', s' = { s with heap := h' } ∧ h'.objs.size = s.heap.objs.size ∧ Off b rows.length s.heap h' ∧
        ZAt h' (b + rows.length + 2) (b + rows.length) (b + rows.length + 1) f0 true ∧ TAt h' (b + rows.length) (itsOf b rows.length) ∧ (∃ kept : List Value, kept.length = rows.length ∧ TAt h' (b + rows.length + 1) kept) ∧ ∀ (j : Nat) (row : Addr), rows[j]? = some row → h'.IsListIter (b + j) row (if j < k then i + 1 else i))
      (fun bb s' => bb = (none, col.toArray) ∧ ∃ h', s' = { s with heap := h' } ∧ h'.objs.size = s.heap.objs.size ∧ Off b rows.length s.heap h' ∧ St0 h' b rows f0 true (fun _ => i + 1)) ?turn ?fin _ _ ?start) ?after (fun _ _ x => x))
    case start =>
      obtain ⟨kept, hk1, hk2⟩ := st.to
      refine ⟨0, by simp, by simp, h1, rfl, hs1.1, Off.but hs1 (by omega), hz1, hti1, ⟨kept, hk1, ?_⟩, fun j row hj => ?_⟩
      · show h1.get? _ = _
        rw [hs1.2 _ (ne_nat (by omega))]; exact hk2
      · have hj' := (List.getElem?_eq_some_iff.mp hj).1
        obtain ⟨o, ho, r⟩ := st.it j row hj
        exact ⟨o, by rw [hs1.2 _ (ne_nat (by omega))]; exact ho, by simpa using r⟩
    case fin =>
      rintro bb s' ⟨k, e, rfl, h', rfl, e2, e3, e4, e5, e6, e7⟩
      have hk : rows.length ≤ k := by
        have := congrArg List.length e
        rw [List.length_drop, its_len] at this
        simp at this
        omega
      refine ⟨by rw [List.take_of_length_le (by omega)], h', rfl, e2, e3, e4, e5, e6, fun j row hj => ?_⟩
      have := e7 j row hj
      have hj' := (List.getElem?_eq_some_iff.mp hj).1
      rw [if_pos (show j < k by omega)] at this
      exact this
    case turn =>
      rintro x rest bb s' ⟨k, e, rfl, h', rfl, hsz, hoff, hz', hti', hto', hits⟩
      obtain ⟨e1, e2⟩ := cons_drop e
      have hk : k < rows.length := by have := (List.getElem?_eq_some_iff.mp e1).1; rw [its_len] at this; exact this
      rw [its_at hk] at e1
      cases e1
      obtain ⟨row, hrow⟩ : ∃ row, rows[k]? = some row := ⟨rows[k], List.getElem?_eq_getElem hk⟩
      obtain ⟨items, v, hI, hv, hcv⟩ := hx k row hrow
      have hit := hits k row hrow
      rw [if_neg (Nat.lt_irrefl _)] at hit
      dsimp only
      refine wpAny_bind (wpAny_holding ?_)
      show wpAny _ _ (Builtin.SmallTypes.nextOf (.ref (b + k)) >>= _) _ _ _
      refine wpAny_bind (nextOf_item (s := { s with heap := h' }) hit (tuple_off hoff (hr row (List.mem_of_getElem? hrow)) hI) hv fun h3 hit3 hs3 => wpAny_pure ?_)
      dsimp only
      refine wpAny_pure ⟨k + 1, e2, ?_, h3, rfl, ?_, ?_, ?_, ?_, ?_, fun j row' hj => ?_⟩
      · rw [List.take_add_one, hcv]; simp
      · rw [hs3.1]; exact hsz
      · exact hoff.trans (Off.but hs3 (by omega))
      · show h3.get? _ = _
        rw [hs3.2 _ (ne_nat (by omega))]; exact hz'
      · show h3.get? _ = _
        rw [hs3.2 _ (ne_nat (by omega))]; exact hti'
      · obtain ⟨kept, hk1, hk2⟩ := hto'
        exact ⟨kept, hk1, by show h3.get? _ = _; rw [hs3.2 _ (ne_nat (by omega))]; exact hk2⟩
      · have hj' := (List.getElem?_eq_some_iff.mp hj).1
        by_cases hjk : j = k
        · subst hjk
          rw [hrow] at hj
          cases hj
          rw [if_pos (Nat.lt_succ_self _)]
          exact hit3
        · obtain ⟨o, ho, r⟩ := hits j row' hj
          refine ⟨o, by rw [hs3.2 _ (fun z => hjk (Nat.add_left_cancel z))]; exact ho, ?_⟩
          by_cases hlt' : j < k
          · rw [if_pos hlt'] at r; rw [if_pos (show j < k + 1 by omega)]; exact r
          · rw [if_neg hlt'] at r; rw [if_neg (show ¬ j < k + 1 by omega)]; exact r
    case after =>
      rintro bb s' ⟨rfl, h', rfl, hsz, hoff, st'⟩
      dsimp only
      refine wpAny_bind (wpAny_newTuple (s := { s with heap := h' }) ?_ (by show col.toArray.toList.length ≤ sizeLine; rw [List.toList_toArray]; exact Nat.le_trans (show col.length ≤ 1000 by omega) (by decide)))
      dsimp only
      rw [hsz]
      have up : ∀ c o, h'.get? c = some o → (h'.push { cls := .type "tuple", data := .seq col.toArray.toList.toArray }).get? c = some o := fun c o e => Heap.get?_push_of_some _ e
      refine wpAny_pure ⟨_, rfl, hQ _ _ true ⟨up _ _ st'.zip, up _ _ st'.ti, ?_, fun k row hk => ?_⟩ hf ?_ ?_ ?_⟩
      · obtain ⟨kept, hk1, hk2⟩ := st'.to
        exact ⟨kept, hk1, up _ _ hk2⟩
      · obtain ⟨o, ho, r⟩ := st'.it k row hk
        exact ⟨o, up _ _ ho, r⟩
      · rw [← hsz]; exact Heap.get?_push_size _ rfl
      · rw [Heap.size_push, hsz]
      · intro c o r e
        exact up _ _ (hoff c o r e)
end
end ZL
namespace ZL
open PySem
section
variable {prog : Program} {w : World} {A : Around} {E : Value → Shared → Prop} {s : Shared}
theorem its_cons {b n : Nat} (h : 0 < n) : ∃ rest, itsOf b n = .ref (b + 0) :: rest := by
  cases e : itsOf b n with
  | nil => have := its_len b n; rw [e] at this; simp at this; omega
  | cons x rest =>
    have := its_at (b := b) h
    rw [e] at this
    simp at this
    exact ⟨rest, by rw [this]; rfl⟩
set_option maxHeartbeats 4000000 in
theorem next_end {b : Nat} {rows : List Addr} {f0 : Value} {f1 : Bool} {i : Nat} {row : Addr} {items : Array Value} {Q : Fin → Shared → Prop} (hh : A.handled = none) (st : St0 s.heap b rows f0 f1 (fun _ => i)) (hf : f0 = .none ∨ ∃ a : Nat, f0 = rawInt a)
    (hr0 : rows[0]? = some row) (hrb : row < b) (hI : s.heap.IsList row items) (hx : items[i]? = none)
    (hE : ∀ h' e, Off b rows.length s.heap h' → (∃ o, h'.get? e = some o ∧ o.cls = .type "StopIteration") → E (.ref e) { s with heap := h' }) :
    wpAny (model prog w) A (Builtin.«zip.__next__» ⟨[.ref (b + rows.length + 2)], []⟩) Q E s := by
  have hn : 0 < rows.length := (List.getElem?_eq_some_iff.mp hr0).1
  obtain ⟨rest, hits⟩ := its_cons (b := b) hn
  show wpAny _ _ (field (.ref (b + rows.length + 2)) 2 >>= _) _ _ _
  refine wpAny_bind (wpAny_field st.zip rfl (x := .bool false) rfl ?_)
  show wpAny _ _ (field (.ref (b + rows.length + 2)) 3 >>= _) _ _ _
  refine wpAny_bind (wpAny_field st.zip rfl (x := .ref (b + rows.length)) rfl ?_)
  refine wpAny_bind (wpAny_seqItems st.ti rfl ?_)
  have hem : (itsOf b rows.length).toArray.isEmpty = false := by rw [hits]; rfl
  dsimp only
  rw [if_neg (by rw [hem]; exact Bool.false_ne_true)]
  refine wpAny_bind (wpAny_mono (own_free st.zip hf) (fun r s1 h1 => ?_) (fun _ _ x => x))
  have hlt : b + rows.length + 2 < s.heap.objs.size := Heap.lt_size st.zip
  have hit := st.it 0 row hr0
  rcases h1 with ⟨rfl, rfl⟩ | ⟨rfl, h1, rfl, hz1, hs1⟩
  · rw [if_pos rfl]
    refine wpAny_bind (wpAny_rule ?_)
    refine wpAny_bind (wpAny_field st.zip rfl (x := .ref (b + rows.length + 1)) rfl ?_)
    refine wpAny_bind (wpAny_setField_rec st.zip (by simp) fun h2 hz2 hs2 => ?_)
    replace hz2 : ZAt h2 (b + rows.length + 2) (b + rows.length) (b + rows.length + 1) .ellipsis f1 := hz2
    have o2 : Off b rows.length s1.heap h2 := Off.but hs2 (by omega)
    have hit2 : h2.IsListIter (b + 0) row i := by
      obtain ⟨o, ho, r⟩ := hit
      exact ⟨o, by rw [hs2.2 _ (ne_nat (by omega))]; exact ho, r⟩
    refine wpAny_bind ?_
    have hz0 : (itsOf b rows.length).toArray.toList.zipIdx = (.ref (b + 0), 0) :: rest.zipIdx 1 := by rw [hits]; rfl
    rw [hz0, List.forIn_cons]
    refine wpAny_bind (wpAny_bind (wpAny_onRaise ?_))
    show wpAny _ _ (Builtin.SmallTypes.nextOf (.ref (b + 0)) >>= _) _ _ _
    refine wpAny_bind (wpAny_nextOf_list_end (s := { s1 with heap := h2 }) hh hit2 (tuple_off o2 hrb hI) hx fun h3 e hs3 he => ?_)
    obtain ⟨oe, hoe, hce⟩ := he
    have hz3 : ZAt h3 (b + rows.length + 2) (b + rows.length) (b + rows.length + 1) .ellipsis f1 := hs3 _ _ (ne_nat (by omega)) hz2
    have hez : e ≠ b + rows.length + 2 := fun x => by subst x; rw [hz3] at hoe; cases hoe; simp at hce
    refine wpAny_setField_rec (s := { s1 with heap := h3 }) hz3 (by simp) fun h4 _ hs4 => hE h4 e (fun c o r x => ?_) ⟨oe, by rw [hs4.2 _ hez]; exact hoe, hce⟩
    rw [hs4.2 _ (ne_nat (by omega))]
    exact hs3 _ _ (ne_nat (by omega)) (o2 c o r x)
  · rw [if_neg Bool.false_ne_true]
    have o1 : Off b rows.length s.heap h1 := Off.but hs1 (by omega)
    have hit1 : h1.IsListIter (b + 0) row i := by
      obtain ⟨o, ho, r⟩ := hit
      exact ⟨o, by rw [hs1.2 _ (ne_nat (by omega))]; exact ho, r⟩
    try dsimp only
    refine wpAny_bind ?_
    rw [← Array.forIn_toList, List.toList_toArray, hits, List.forIn_cons]
    refine wpAny_bind (wpAny_bind (wpAny_holding ?_))
    show wpAny _ _ (Builtin.SmallTypes.nextOf (.ref (b + 0)) >>= _) _ _ _
    refine wpAny_bind (wpAny_nextOf_list_end (s := { s with heap := h1 }) hh hit1 (tuple_off o1 hrb hI) hx fun h3 e hs3 he => hE h3 e (fun c o r x => ?_) he)
    exact hs3 _ _ (ne_nat (by omega)) (o1 c o r x)
theorem pyNext_item {b : Nat} {rows : List Addr} {f0 : Value} {f1 : Bool} {i : Nat} {col : List Value} {Q : Option Value → Shared → Prop} (st : St0 s.heap b rows f0 f1 (fun _ => i)) (hf : f0 = .none ∨ ∃ a : Nat, f0 = rawInt a) (hn : 0 < rows.length) (hn2 : rows.length ≤ 1000)
    (hr : ∀ row ∈ rows, row < b) (hc : col.length = rows.length) (hx : ∀ (k : Nat) (row : Addr), rows[k]? = some row → ∃ (items : Array Value) (x : Value), s.heap.IsList row items ∧ items[i]? = some x ∧ col[k]? = some x)
    (hQ : ∀ h' f0' f1', St0 h' b rows f0' f1' (fun _ => i + 1) → (f0' = .none ∨ ∃ a : Nat, f0' = rawInt a) → TAt h' s.heap.objs.size col → h'.objs.size = s.heap.objs.size + 1 → Off b rows.length s.heap h' → Q (some (.ref s.heap.objs.size)) { s with heap := h' }) :
    wpAny (model prog w) A (pyNext (.ref (b + rows.length + 2))) Q E s := by
  have hT : s.TypeIs (.ref (b + rows.length + 2)) "zip" := ⟨_, st.zip, rfl⟩
  unfold pyNext
  exact wpAny_bind (wpAny_attempt (wpAny_callSpecial?_slot (name := Str.ofString "__next__") hT F.slot_zip_next
    (wpAny_call_entry F.slot_zip_next hT F.entry_zip_next
      (next_item st hf hn hn2 hr hc hx fun h' a b' a1 a2 a3 a4 a5 => wpAny_pure (hQ h' a b' a1 a2 a3 a4 a5)) (F.args_zip_next_1 _))))
theorem pyNext_end {b : Nat} {rows : List Addr} {f0 : Value} {f1 : Bool} {i : Nat} {row : Addr} {items : Array Value} {Q : Option Value → Shared → Prop} (hh : A.handled = none) (st : St0 s.heap b rows f0 f1 (fun _ => i)) (hf : f0 = .none ∨ ∃ a : Nat, f0 = rawInt a)
    (hr0 : rows[0]? = some row) (hrb : row < b) (hI : s.heap.IsList row items) (hx : items[i]? = none) (hQ : ∀ h', Off b rows.length s.heap h' → Q none { s with heap := h' }) :
    wpAny (model prog w) A (pyNext (.ref (b + rows.length + 2))) Q E s := by
  have hT : s.TypeIs (.ref (b + rows.length + 2)) "zip" := ⟨_, st.zip, rfl⟩
  unfold pyNext
  refine wpAny_bind (wpAny_attempt (wpAny_callSpecial?_slot (name := Str.ofString "__next__") hT F.slot_zip_next
    (wpAny_call_entry F.slot_zip_next hT F.entry_zip_next (next_end hh st hf hr0 hrb hI hx fun h' e hk he => ?_) (F.args_zip_next_1 _))))
  obtain ⟨o, ho, hc⟩ := he
  refine wpAny_bind (wpAny_isInstance (T := "StopIteration") (b := true) ⟨o, ho, hc⟩ isSubtype_stop ?_)
  exact wpAny_pure (hQ _ hk)
theorem pyIter_zip {z TI TO : Addr} {f0 : Value} {f1 : Bool} {Q : Value → Shared → Prop} (hz : ZAt s.heap z TI TO f0 f1) (h : Q (.ref z) s) : wpAny (model prog w) A (pyIter (.ref z)) Q E s := by
  have hT : s.TypeIs (.ref z) "zip" := ⟨_, hz, rfl⟩
  refine wpAny_pyIter_slot hT F.slot_zip_iter (wpAny_call_entry F.slot_zip_iter hT F.entry_zip_iter ?_ (F.args_zip_iter_1 _))
  show wpAny _ _ (ret (.ref z)) _ _ s
  exact wpAny_pure ⟨_, rfl, "zip", _, hT, F.slot_zip_next.lookup, h⟩
/-! making it -/
theorem typeCall (as : List Value) (h : as.length ≤ 72) : checkTypeCall "zip" ⟨as, []⟩ = pure () := by
  match as, h with
  | [], _ => kernel_rfl
  | a0 :: [], _ => kernel_rfl
  | a0 :: a1 :: [], _ => kernel_rfl
  | a0 :: a1 :: a2 :: [], _ => kernel_rfl
  | a0 :: a1 :: a2 :: a3 :: [], _ => kernel_rfl
  | a0 :: a1 :: a2 :: a3 :: a4 :: [], _ => kernel_rfl
  | a0 :: a1 :: a2 :: a3 :: a4 :: a5 :: [], _ => kernel_rfl
  | a0 :: a1 :: a2 :: a3 :: a4 :: a5 :: a6 :: [], _ => kernel_rfl
  | a0 :: a1 :: a2 :: a3 :: a4 :: a5 :: a6 :: a7 :: [], _ => kernel_rfl
  | a0 :: a1 :: a2 :: a3 :: a4 :: a5 :: a6 :: a7 :: a8 :: [], _ => kernel_rfl
  | a0 :: a1 :: a2 :: a3 :: a4 :: a5 :: a6 :: a7 :: a8 :: a9 :: [], _ => kernel_rfl
  | a0 :: a1 :: a2 :: a3 :: a4 :: a5 :: a6 :: a7 :: a8 :: a9 :: a10 :: [], _ => kernel_rfl
  | a0 :: a1 :: a2 :: a3 :: a4 :: a5 :: a6 :: a7 :: a8 :: a9 :: a10 :: a11 :: [], _ => kernel_rfl
  | a0 :: a1 :: a2 :: a3 :: a4 :: a5 :: a6 :: a7 :: a8 :: a9 :: a10 :: a11 :: a12 :: [], _ => kernel_rfl
  | a0 :: a1 :: a2 :: a3 :: a4 :: a5 :: a6 :: a7 :: a8 :: a9 :: a10 :: a11 :: a12 :: a13 :: [], _ => kernel_rfl
  | a0 :: a1 :: a2 :: a3 :: a4 :: a5 :: a6 :: a7 :: a8 :: a9 :: a10 :: a11 :: a12 :: a13 :: a14 :: [], _ => kernel_rfl
  | a0 :: a1 :: a2 :: a3 :: a4 :: a5 :: a6 :: a7 :: a8 :: a9 :: a10 :: a11 :: a12 :: a13 :: a14 :: a15 :: [], _ => kernel_rfl
  | a0 :: a1 :: a2 :: a3 :: a4 :: a5 :: a6 :: a7 :: a8 :: a9 :: a10 :: a11 :: a12 :: a13 :: a14 :: a15 :: a16 :: [], _ => kernel_rfl
  | a0 :: a1 :: a2 :: a3 :: a4 :: a5 :: a6 :: a7 :: a8 :: a9 :: a10 :: a11 :: a12 :: a13 :: a14 :: a15 :: a16 :: a17 :: [], _ => kernel_rfl
  | a0 :: a1 :: a2 :: a3 :: a4 :: a5 :: a6 :: a7 :: a8 :: a9 :: a10 :: a11 :: a12 :: a13 :: a14 :: a15 :: a16 :: a17 :: a18 :: [], _ => kernel_rfl
  | a0 :: a1 :: a2 :: a3 :: a4 :: a5 :: a6 :: a7 :: a8 :: a9 :: a10 :: a11 :: a12 :: a13 :: a14 :: a15 :: a16 :: a17 :: a18 :: a19 :: [], _ => kernel_rfl
  | a0 :: a1 :: a2 :: a3 :: a4 :: a5 :: a6 :: a7 :: a8 :: a9 :: a10 :: a11 :: a12 :: a13 :: a14 :: a15 :: a16 :: a17 :: a18 :: a19 :: a20 :: [], _ => kernel_rfl
  | a0 :: a1 :: a2 :: a3 :: a4 :: a5 :: a6 :: a7 :: a8 :: a9 :: a10 :: a11 :: a12 :: a13 :: a14 :: a15 :: a16 :: a17 :: a18 :: a19 :: a20 :: a21 :: [], _ => kernel_rfl
  | a0 :: a1 :: a2 :: a3 :: a4 :: a5 :: a6 :: a7 :: a8 :: a9 :: a10 :: a11 :: a12 :: a13 :: a14 :: a15 :: a16 :: a17 :: a18 :: a19 :: a20 :: a21 :: a22 :: [], _ => kernel_rfl
  | a0 :: a1 :: a2 :: a3 :: a4 :: a5 :: a6 :: a7 :: a8 :: a9 :: a10 :: a11 :: a12 :: a13 :: a14 :: a15 :: a16 :: a17 :: a18 :: a19 :: a20 :: a21 :: a22 :: a23 :: [], _ => kernel_rfl
  | a0 :: a1 :: a2 :: a3 :: a4 :: a5 :: a6 :: a7 :: a8 :: a9 :: a10 :: a11 :: a12 :: a13 :: a14 :: a15 :: a16 :: a17 :: a18 :: a19 :: a20 :: a21 :: a22 :: a23 :: a24 :: [], _ => kernel_rfl
  | a0 :: a1 :: a2 :: a3 :: a4 :: a5 :: a6 :: a7 :: a8 :: a9 :: a10 :: a11 :: a12 :: a13 :: a14 :: a15 :: a16 :: a17 :: a18 :: a19 :: a20 :: a21 :: a22 :: a23 :: a24 :: a25 :: [], _ => kernel_rfl
  | a0 :: a1 :: a2 :: a3 :: a4 :: a5 :: a6 :: a7 :: a8 :: a9 :: a10 :: a11 :: a12 :: a13 :: a14 :: a15 :: a16 :: a17 :: a18 :: a19 :: a20 :: a21 :: a22 :: a23 :: a24 :: a25 :: a26 :: [], _ => kernel_rfl
  | a0 :: a1 :: a2 :: a3 :: a4 :: a5 :: a6 :: a7 :: a8 :: a9 :: a10 :: a11 :: a12 :: a13 :: a14 :: a15 :: a16 :: a17 :: a18 :: a19 :: a20 :: a21 :: a22 :: a23 :: a24 :: a25 :: a26 :: a27 :: [], _ => kernel_rfl
  | a0 :: a1 :: a2 :: a3 :: a4 :: a5 :: a6 :: a7 :: a8 :: a9 :: a10 :: a11 :: a12 :: a13 :: a14 :: a15 :: a16 :: a17 :: a18 :: a19 :: a20 :: a21 :: a22 :: a23 :: a24 :: a25 :: a26 :: a27 :: a28 :: [], _ => kernel_rfl
  | a0 :: a1 :: a2 :: a3 :: a4 :: a5 :: a6 :: a7 :: a8 :: a9 :: a10 :: a11 :: a12 :: a13 :: a14 :: a15 :: a16 :: a17 :: a18 :: a19 :: a20 :: a21 :: a22 :: a23 :: a24 :: a25 :: a26 :: a27 :: a28 :: a29 :: [], _ => kernel_rfl
  | a0 :: a1 :: a2 :: a3 :: a4 :: a5 :: a6 :: a7 :: a8 :: a9 :: a10 :: a11 :: a12 :: a13 :: a14 :: a15 :: a16 :: a17 :: a18 :: a19 :: a20 :: a21 :: a22 :: a23 :: a24 :: a25 :: a26 :: a27 :: a28 :: a29 :: a30 :: [], _ => kernel_rfl
  | a0 :: a1 :: a2 :: a3 :: a4 :: a5 :: a6 :: a7 :: a8 :: a9 :: a10 :: a11 :: a12 :: a13 :: a14 :: a15 :: a16 :: a17 :: a18 :: a19 :: a20 :: a21 :: a22 :: a23 :: a24 :: a25 :: a26 :: a27 :: a28 :: a29 :: a30 :: a31 :: [], _ => kernel_rfl
  | a0 :: a1 :: a2 :: a3 :: a4 :: a5 :: a6 :: a7 :: a8 :: a9 :: a10 :: a11 :: a12 :: a13 :: a14 :: a15 :: a16 :: a17 :: a18 :: a19 :: a20 :: a21 :: a22 :: a23 :: a24 :: a25 :: a26 :: a27 :: a28 :: a29 :: a30 :: a31 :: a32 :: [], _ => kernel_rfl
  | a0 :: a1 :: a2 :: a3 :: a4 :: a5 :: a6 :: a7 :: a8 :: a9 :: a10 :: a11 :: a12 :: a13 :: a14 :: a15 :: a16 :: a17 :: a18 :: a19 :: a20 :: a21 :: a22 :: a23 :: a24 :: a25 :: a26 :: a27 :: a28 :: a29 :: a30 :: a31 :: a32 :: a33 :: [], _ => kernel_rfl
  | a0 :: a1 :: a2 :: a3 :: a4 :: a5 :: a6 :: a7 :: a8 :: a9 :: a10 :: a11 :: a12 :: a13 :: a14 :: a15 :: a16 :: a17 :: a18 :: a19 :: a20 :: a21 :: a22 :: a23 :: a24 :: a25 :: a26 :: a27 :: a28 :: a29 :: a30 :: a31 :: a32 :: a33 :: a34 :: [], _ => kernel_rfl
  | a0 :: a1 :: a2 :: a3 :: a4 :: a5 :: a6 :: a7 :: a8 :: a9 :: a10 :: a11 :: a12 :: a13 :: a14 :: a15 :: a16 :: a17 :: a18 :: a19 :: a20 :: a21 :: a22 :: a23 :: a24 :: a25 :: a26 :: a27 :: a28 :: a29 :: a30 :: a31 :: a32 :: a33 :: a34 :: a35 :: [], _ => kernel_rfl
  | a0 :: a1 :: a2 :: a3 :: a4 :: a5 :: a6 :: a7 :: a8 :: a9 :: a10 :: a11 :: a12 :: a13 :: a14 :: a15 :: a16 :: a17 :: a18 :: a19 :: a20 :: a21 :: a22 :: a23 :: a24 :: a25 :: a26 :: a27 :: a28 :: a29 :: a30 :: a31 :: a32 :: a33 :: a34 :: a35 :: a36 :: [], _ => kernel_rfl
  | a0 :: a1 :: a2 :: a3 :: a4 :: a5 :: a6 :: a7 :: a8 :: a9 :: a10 :: a11 :: a12 :: a13 :: a14 :: a15 :: a16 :: a17 :: a18 :: a19 :: a20 :: a21 :: a22 :: a23 :: a24 :: a25 :: a26 :: a27 :: a28 :: a29 :: a30 :: a31 :: a32 :: a33 :: a34 :: a35 :: a36 :: a37 :: [], _ => kernel_rfl
  | a0 :: a1 :: a2 :: a3 :: a4 :: a5 :: a6 :: a7 :: a8 :: a9 :: a10 :: a11 :: a12 :: a13 :: a14 :: a15 :: a16 :: a17 :: a18 :: a19 :: a20 :: a21 :: a22 :: a23 :: a24 :: a25 :: a26 :: a27 :: a28 :: a29 :: a30 :: a31 :: a32 :: a33 :: a34 :: a35 :: a36 :: a37 :: a38 :: [], _ => kernel_rfl
  | a0 :: a1 :: a2 :: a3 :: a4 :: a5 :: a6 :: a7 :: a8 :: a9 :: a10 :: a11 :: a12 :: a13 :: a14 :: a15 :: a16 :: a17 :: a18 :: a19 :: a20 :: a21 :: a22 :: a23 :: a24 :: a25 :: a26 :: a27 :: a28 :: a29 :: a30 :: a31 :: a32 :: a33 :: a34 :: a35 :: a36 :: a37 :: a38 :: a39 :: [], _ => kernel_rfl
  | a0 :: a1 :: a2 :: a3 :: a4 :: a5 :: a6 :: a7 :: a8 :: a9 :: a10 :: a11 :: a12 :: a13 :: a14 :: a15 :: a16 :: a17 :: a18 :: a19 :: a20 :: a21 :: a22 :: a23 :: a24 :: a25 :: a26 :: a27 :: a28 :: a29 :: a30 :: a31 :: a32 :: a33 :: a34 :: a35 :: a36 :: a37 :: a38 :: a39 :: a40 :: [], _ => kernel_rfl
  | a0 :: a1 :: a2 :: a3 :: a4 :: a5 :: a6 :: a7 :: a8 :: a9 :: a10 :: a11 :: a12 :: a13 :: a14 :: a15 :: a16 :: a17 :: a18 :: a19 :: a20 :: a21 :: a22 :: a23 :: a24 :: a25 :: a26 :: a27 :: a28 :: a29 :: a30 :: a31 :: a32 :: a33 :: a34 :: a35 :: a36 :: a37 :: a38 :: a39 :: a40 :: a41 :: [], _ => kernel_rfl
  | a0 :: a1 :: a2 :: a3 :: a4 :: a5 :: a6 :: a7 :: a8 :: a9 :: a10 :: a11 :: a12 :: a13 :: a14 :: a15 :: a16 :: a17 :: a18 :: a19 :: a20 :: a21 :: a22 :: a23 :: a24 :: a25 :: a26 :: a27 :: a28 :: a29 :: a30 :: a31 :: a32 :: a33 :: a34 :: a35 :: a36 :: a37 :: a38 :: a39 :: a40 :: a41 :: a42 :: [], _ => kernel_rfl
  | a0 :: a1 :: a2 :: a3 :: a4 :: a5 :: a6 :: a7 :: a8 :: a9 :: a10 :: a11 :: a12 :: a13 :: a14 :: a15 :: a16 :: a17 :: a18 :: a19 :: a20 :: a21 :: a22 :: a23 :: a24 :: a25 :: a26 :: a27 :: a28 :: a29 :: a30 :: a31 :: a32 :: a33 :: a34 :: a35 :: a36 :: a37 :: a38 :: a39 :: a40 :: a41 :: a42 :: a43 :: [], _ => kernel_rfl
  | a0 :: a1 :: a2 :: a3 :: a4 :: a5 :: a6 :: a7 :: a8 :: a9 :: a10 :: a11 :: a12 :: a13 :: a14 :: a15 :: a16 :: a17 :: a18 :: a19 :: a20 :: a21 :: a22 :: a23 :: a24 :: a25 :: a26 :: a27 :: a28 :: a29 :: a30 :: a31 :: a32 :: a33 :: a34 :: a35 :: a36 :: a37 :: a38 :: a39 :: a40 :: a41 :: a42 :: a43 :: a44 :: [], _ => kernel_rfl
  | a0 :: a1 :: a2 :: a3 :: a4 :: a5 :: a6 :: a7 :: a8 :: a9 :: a10 :: a11 :: a12 :: a13 :: a14 :: a15 :: a16 :: a17 :: a18 :: a19 :: a20 :: a21 :: a22 :: a23 :: a24 :: a25 :: a26 :: a27 :: a28 :: a29 :: a30 :: a31 :: a32 :: a33 :: a34 :: a35 :: a36 :: a37 :: a38 :: a39 :: a40 :: a41 :: a42 :: a43 :: a44 :: a45 :: [], _ => kernel_rfl
  | a0 :: a1 :: a2 :: a3 :: a4 :: a5 :: a6 :: a7 :: a8 :: a9 :: a10 :: a11 :: a12 :: a13 :: a14 :: a15 :: a16 :: a17 :: a18 :: a19 :: a20 :: a21 :: a22 :: a23 :: a24 :: a25 :: a26 :: a27 :: a28 :: a29 :: a30 :: a31 :: a32 :: a33 :: a34 :: a35 :: a36 :: a37 :: a38 :: a39 :: a40 :: a41 :: a42 :: a43 :: a44 :: a45 :: a46 :: [], _ => kernel_rfl
  | a0 :: a1 :: a2 :: a3 :: a4 :: a5 :: a6 :: a7 :: a8 :: a9 :: a10 :: a11 :: a12 :: a13 :: a14 :: a15 :: a16 :: a17 :: a18 :: a19 :: a20 :: a21 :: a22 :: a23 :: a24 :: a25 :: a26 :: a27 :: a28 :: a29 :: a30 :: a31 :: a32 :: a33 :: a34 :: a35 :: a36 :: a37 :: a38 :: a39 :: a40 :: a41 :: a42 :: a43 :: a44 :: a45 :: a46 :: a47 :: [], _ => kernel_rfl
  | a0 :: a1 :: a2 :: a3 :: a4 :: a5 :: a6 :: a7 :: a8 :: a9 :: a10 :: a11 :: a12 :: a13 :: a14 :: a15 :: a16 :: a17 :: a18 :: a19 :: a20 :: a21 :: a22 :: a23 :: a24 :: a25 :: a26 :: a27 :: a28 :: a29 :: a30 :: a31 :: a32 :: a33 :: a34 :: a35 :: a36 :: a37 :: a38 :: a39 :: a40 :: a41 :: a42 :: a43 :: a44 :: a45 :: a46 :: a47 :: a48 :: [], _ => kernel_rfl
  | a0 :: a1 :: a2 :: a3 :: a4 :: a5 :: a6 :: a7 :: a8 :: a9 :: a10 :: a11 :: a12 :: a13 :: a14 :: a15 :: a16 :: a17 :: a18 :: a19 :: a20 :: a21 :: a22 :: a23 :: a24 :: a25 :: a26 :: a27 :: a28 :: a29 :: a30 :: a31 :: a32 :: a33 :: a34 :: a35 :: a36 :: a37 :: a38 :: a39 :: a40 :: a41 :: a42 :: a43 :: a44 :: a45 :: a46 :: a47 :: a48 :: a49 :: [], _ => kernel_rfl
  | a0 :: a1 :: a2 :: a3 :: a4 :: a5 :: a6 :: a7 :: a8 :: a9 :: a10 :: a11 :: a12 :: a13 :: a14 :: a15 :: a16 :: a17 :: a18 :: a19 :: a20 :: a21 :: a22 :: a23 :: a24 :: a25 :: a26 :: a27 :: a28 :: a29 :: a30 :: a31 :: a32 :: a33 :: a34 :: a35 :: a36 :: a37 :: a38 :: a39 :: a40 :: a41 :: a42 :: a43 :: a44 :: a45 :: a46 :: a47 :: a48 :: a49 :: a50 :: [], _ => kernel_rfl
  | a0 :: a1 :: a2 :: a3 :: a4 :: a5 :: a6 :: a7 :: a8 :: a9 :: a10 :: a11 :: a12 :: a13 :: a14 :: a15 :: a16 :: a17 :: a18 :: a19 :: a20 :: a21 :: a22 :: a23 :: a24 :: a25 :: a26 :: a27 :: a28 :: a29 :: a30 :: a31 :: a32 :: a33 :: a34 :: a35 :: a36 :: a37 :: a38 :: a39 :: a40 :: a41 :: a42 :: a43 :: a44 :: a45 :: a46 :: a47 :: a48 :: a49 :: a50 :: a51 :: [], _ => kernel_rfl
  | a0 :: a1 :: a2 :: a3 :: a4 :: a5 :: a6 :: a7 :: a8 :: a9 :: a10 :: a11 :: a12 :: a13 :: a14 :: a15 :: a16 :: a17 :: a18 :: a19 :: a20 :: a21 :: a22 :: a23 :: a24 :: a25 :: a26 :: a27 :: a28 :: a29 :: a30 :: a31 :: a32 :: a33 :: a34 :: a35 :: a36 :: a37 :: a38 :: a39 :: a40 :: a41 :: a42 :: a43 :: a44 :: a45 :: a46 :: a47 :: a48 :: a49 :: a50 :: a51 :: a52 :: [], _ => kernel_rfl
  | a0 :: a1 :: a2 :: a3 :: a4 :: a5 :: a6 :: a7 :: a8 :: a9 :: a10 :: a11 :: a12 :: a13 :: a14 :: a15 :: a16 :: a17 :: a18 :: a19 :: a20 :: a21 :: a22 :: a23 :: a24 :: a25 :: a26 :: a27 :: a28 :: a29 :: a30 :: a31 :: a32 :: a33 :: a34 :: a35 :: a36 :: a37 :: a38 :: a39 :: a40 :: a41 :: a42 :: a43 :: a44 :: a45 :: a46 :: a47 :: a48 :: a49 :: a50 :: a51 :: a52 :: a53 :: [], _ => kernel_rfl
  | a0 :: a1 :: a2 :: a3 :: a4 :: a5 :: a6 :: a7 :: a8 :: a9 :: a10 :: a11 :: a12 :: a13 :: a14 :: a15 :: a16 :: a17 :: a18 :: a19 :: a20 :: a21 :: a22 :: a23 :: a24 :: a25 :: a26 :: a27 :: a28 :: a29 :: a30 :: a31 :: a32 :: a33 :: a34 :: a35 :: a36 :: a37 :: a38 :: a39 :: a40 :: a41 :: a42 :: a43 :: a44 :: a45 :: a46 :: a47 :: a48 :: a49 :: a50 :: a51 :: a52 :: a53 :: a54 :: [], _ => kernel_rfl
  | a0 :: a1 :: a2 :: a3 :: a4 :: a5 :: a6 :: a7 :: a8 :: a9 :: a10 :: a11 :: a12 :: a13 :: a14 :: a15 :: a16 :: a17 :: a18 :: a19 :: a20 :: a21 :: a22 :: a23 :: a24 :: a25 :: a26 :: a27 :: a28 :: a29 :: a30 :: a31 :: a32 :: a33 :: a34 :: a35 :: a36 :: a37 :: a38 :: a39 :: a40 :: a41 :: a42 :: a43 :: a44 :: a45 :: a46 :: a47 :: a48 :: a49 :: a50 :: a51 :: a52 :: a53 :: a54 :: a55 :: [], _ => kernel_rfl
  | a0 :: a1 :: a2 :: a3 :: a4 :: a5 :: a6 :: a7 :: a8 :: a9 :: a10 :: a11 :: a12 :: a13 :: a14 :: a15 :: a16 :: a17 :: a18 :: a19 :: a20 :: a21 :: a22 :: a23 :: a24 :: a25 :: a26 :: a27 :: a28 :: a29 :: a30 :: a31 :: a32 :: a33 :: a34 :: a35 :: a36 :: a37 :: a38 :: a39 :: a40 :: a41 :: a42 :: a43 :: a44 :: a45 :: a46 :: a47 :: a48 :: a49 :: a50 :: a51 :: a52 :: a53 :: a54 :: a55 :: a56 :: [], _ => kernel_rfl
  | a0 :: a1 :: a2 :: a3 :: a4 :: a5 :: a6 :: a7 :: a8 :: a9 :: a10 :: a11 :: a12 :: a13 :: a14 :: a15 :: a16 :: a17 :: a18 :: a19 :: a20 :: a21 :: a22 :: a23 :: a24 :: a25 :: a26 :: a27 :: a28 :: a29 :: a30 :: a31 :: a32 :: a33 :: a34 :: a35 :: a36 :: a37 :: a38 :: a39 :: a40 :: a41 :: a42 :: a43 :: a44 :: a45 :: a46 :: a47 :: a48 :: a49 :: a50 :: a51 :: a52 :: a53 :: a54 :: a55 :: a56 :: a57 :: [], _ => kernel_rfl
  | a0 :: a1 :: a2 :: a3 :: a4 :: a5 :: a6 :: a7 :: a8 :: a9 :: a10 :: a11 :: a12 :: a13 :: a14 :: a15 :: a16 :: a17 :: a18 :: a19 :: a20 :: a21 :: a22 :: a23 :: a24 :: a25 :: a26 :: a27 :: a28 :: a29 :: a30 :: a31 :: a32 :: a33 :: a34 :: a35 :: a36 :: a37 :: a38 :: a39 :: a40 :: a41 :: a42 :: a43 :: a44 :: a45 :: a46 :: a47 :: a48 :: a49 :: a50 :: a51 :: a52 :: a53 :: a54 :: a55 :: a56 :: a57 :: a58 :: [], _ => kernel_rfl
  | a0 :: a1 :: a2 :: a3 :: a4 :: a5 :: a6 :: a7 :: a8 :: a9 :: a10 :: a11 :: a12 :: a13 :: a14 :: a15 :: a16 :: a17 :: a18 :: a19 :: a20 :: a21 :: a22 :: a23 :: a24 :: a25 :: a26 :: a27 :: a28 :: a29 :: a30 :: a31 :: a32 :: a33 :: a34 :: a35 :: a36 :: a37 :: a38 :: a39 :: a40 :: a41 :: a42 :: a43 :: a44 :: a45 :: a46 :: a47 :: a48 :: a49 :: a50 :: a51 :: a52 :: a53 :: a54 :: a55 :: a56 :: a57 :: a58 :: a59 :: [], _ => kernel_rfl
  | a0 :: a1 :: a2 :: a3 :: a4 :: a5 :: a6 :: a7 :: a8 :: a9 :: a10 :: a11 :: a12 :: a13 :: a14 :: a15 :: a16 :: a17 :: a18 :: a19 :: a20 :: a21 :: a22 :: a23 :: a24 :: a25 :: a26 :: a27 :: a28 :: a29 :: a30 :: a31 :: a32 :: a33 :: a34 :: a35 :: a36 :: a37 :: a38 :: a39 :: a40 :: a41 :: a42 :: a43 :: a44 :: a45 :: a46 :: a47 :: a48 :: a49 :: a50 :: a51 :: a52 :: a53 :: a54 :: a55 :: a56 :: a57 :: a58 :: a59 :: a60 :: [], _ => kernel_rfl
  | a0 :: a1 :: a2 :: a3 :: a4 :: a5 :: a6 :: a7 :: a8 :: a9 :: a10 :: a11 :: a12 :: a13 :: a14 :: a15 :: a16 :: a17 :: a18 :: a19 :: a20 :: a21 :: a22 :: a23 :: a24 :: a25 :: a26 :: a27 :: a28 :: a29 :: a30 :: a31 :: a32 :: a33 :: a34 :: a35 :: a36 :: a37 :: a38 :: a39 :: a40 :: a41 :: a42 :: a43 :: a44 :: a45 :: a46 :: a47 :: a48 :: a49 :: a50 :: a51 :: a52 :: a53 :: a54 :: a55 :: a56 :: a57 :: a58 :: a59 :: a60 :: a61 :: [], _ => kernel_rfl
  | a0 :: a1 :: a2 :: a3 :: a4 :: a5 :: a6 :: a7 :: a8 :: a9 :: a10 :: a11 :: a12 :: a13 :: a14 :: a15 :: a16 :: a17 :: a18 :: a19 :: a20 :: a21 :: a22 :: a23 :: a24 :: a25 :: a26 :: a27 :: a28 :: a29 :: a30 :: a31 :: a32 :: a33 :: a34 :: a35 :: a36 :: a37 :: a38 :: a39 :: a40 :: a41 :: a42 :: a43 :: a44 :: a45 :: a46 :: a47 :: a48 :: a49 :: a50 :: a51 :: a52 :: a53 :: a54 :: a55 :: a56 :: a57 :: a58 :: a59 :: a60 :: a61 :: a62 :: [], _ => kernel_rfl
  | a0 :: a1 :: a2 :: a3 :: a4 :: a5 :: a6 :: a7 :: a8 :: a9 :: a10 :: a11 :: a12 :: a13 :: a14 :: a15 :: a16 :: a17 :: a18 :: a19 :: a20 :: a21 :: a22 :: a23 :: a24 :: a25 :: a26 :: a27 :: a28 :: a29 :: a30 :: a31 :: a32 :: a33 :: a34 :: a35 :: a36 :: a37 :: a38 :: a39 :: a40 :: a41 :: a42 :: a43 :: a44 :: a45 :: a46 :: a47 :: a48 :: a49 :: a50 :: a51 :: a52 :: a53 :: a54 :: a55 :: a56 :: a57 :: a58 :: a59 :: a60 :: a61 :: a62 :: a63 :: [], _ => kernel_rfl
  | a0 :: a1 :: a2 :: a3 :: a4 :: a5 :: a6 :: a7 :: a8 :: a9 :: a10 :: a11 :: a12 :: a13 :: a14 :: a15 :: a16 :: a17 :: a18 :: a19 :: a20 :: a21 :: a22 :: a23 :: a24 :: a25 :: a26 :: a27 :: a28 :: a29 :: a30 :: a31 :: a32 :: a33 :: a34 :: a35 :: a36 :: a37 :: a38 :: a39 :: a40 :: a41 :: a42 :: a43 :: a44 :: a45 :: a46 :: a47 :: a48 :: a49 :: a50 :: a51 :: a52 :: a53 :: a54 :: a55 :: a56 :: a57 :: a58 :: a59 :: a60 :: a61 :: a62 :: a63 :: a64 :: [], _ => kernel_rfl
  | a0 :: a1 :: a2 :: a3 :: a4 :: a5 :: a6 :: a7 :: a8 :: a9 :: a10 :: a11 :: a12 :: a13 :: a14 :: a15 :: a16 :: a17 :: a18 :: a19 :: a20 :: a21 :: a22 :: a23 :: a24 :: a25 :: a26 :: a27 :: a28 :: a29 :: a30 :: a31 :: a32 :: a33 :: a34 :: a35 :: a36 :: a37 :: a38 :: a39 :: a40 :: a41 :: a42 :: a43 :: a44 :: a45 :: a46 :: a47 :: a48 :: a49 :: a50 :: a51 :: a52 :: a53 :: a54 :: a55 :: a56 :: a57 :: a58 :: a59 :: a60 :: a61 :: a62 :: a63 :: a64 :: a65 :: [], _ => kernel_rfl
  | a0 :: a1 :: a2 :: a3 :: a4 :: a5 :: a6 :: a7 :: a8 :: a9 :: a10 :: a11 :: a12 :: a13 :: a14 :: a15 :: a16 :: a17 :: a18 :: a19 :: a20 :: a21 :: a22 :: a23 :: a24 :: a25 :: a26 :: a27 :: a28 :: a29 :: a30 :: a31 :: a32 :: a33 :: a34 :: a35 :: a36 :: a37 :: a38 :: a39 :: a40 :: a41 :: a42 :: a43 :: a44 :: a45 :: a46 :: a47 :: a48 :: a49 :: a50 :: a51 :: a52 :: a53 :: a54 :: a55 :: a56 :: a57 :: a58 :: a59 :: a60 :: a61 :: a62 :: a63 :: a64 :: a65 :: a66 :: [], _ => kernel_rfl
  | a0 :: a1 :: a2 :: a3 :: a4 :: a5 :: a6 :: a7 :: a8 :: a9 :: a10 :: a11 :: a12 :: a13 :: a14 :: a15 :: a16 :: a17 :: a18 :: a19 :: a20 :: a21 :: a22 :: a23 :: a24 :: a25 :: a26 :: a27 :: a28 :: a29 :: a30 :: a31 :: a32 :: a33 :: a34 :: a35 :: a36 :: a37 :: a38 :: a39 :: a40 :: a41 :: a42 :: a43 :: a44 :: a45 :: a46 :: a47 :: a48 :: a49 :: a50 :: a51 :: a52 :: a53 :: a54 :: a55 :: a56 :: a57 :: a58 :: a59 :: a60 :: a61 :: a62 :: a63 :: a64 :: a65 :: a66 :: a67 :: [], _ => kernel_rfl
  | a0 :: a1 :: a2 :: a3 :: a4 :: a5 :: a6 :: a7 :: a8 :: a9 :: a10 :: a11 :: a12 :: a13 :: a14 :: a15 :: a16 :: a17 :: a18 :: a19 :: a20 :: a21 :: a22 :: a23 :: a24 :: a25 :: a26 :: a27 :: a28 :: a29 :: a30 :: a31 :: a32 :: a33 :: a34 :: a35 :: a36 :: a37 :: a38 :: a39 :: a40 :: a41 :: a42 :: a43 :: a44 :: a45 :: a46 :: a47 :: a48 :: a49 :: a50 :: a51 :: a52 :: a53 :: a54 :: a55 :: a56 :: a57 :: a58 :: a59 :: a60 :: a61 :: a62 :: a63 :: a64 :: a65 :: a66 :: a67 :: a68 :: [], _ => kernel_rfl
  | a0 :: a1 :: a2 :: a3 :: a4 :: a5 :: a6 :: a7 :: a8 :: a9 :: a10 :: a11 :: a12 :: a13 :: a14 :: a15 :: a16 :: a17 :: a18 :: a19 :: a20 :: a21 :: a22 :: a23 :: a24 :: a25 :: a26 :: a27 :: a28 :: a29 :: a30 :: a31 :: a32 :: a33 :: a34 :: a35 :: a36 :: a37 :: a38 :: a39 :: a40 :: a41 :: a42 :: a43 :: a44 :: a45 :: a46 :: a47 :: a48 :: a49 :: a50 :: a51 :: a52 :: a53 :: a54 :: a55 :: a56 :: a57 :: a58 :: a59 :: a60 :: a61 :: a62 :: a63 :: a64 :: a65 :: a66 :: a67 :: a68 :: a69 :: [], _ => kernel_rfl
  | a0 :: a1 :: a2 :: a3 :: a4 :: a5 :: a6 :: a7 :: a8 :: a9 :: a10 :: a11 :: a12 :: a13 :: a14 :: a15 :: a16 :: a17 :: a18 :: a19 :: a20 :: a21 :: a22 :: a23 :: a24 :: a25 :: a26 :: a27 :: a28 :: a29 :: a30 :: a31 :: a32 :: a33 :: a34 :: a35 :: a36 :: a37 :: a38 :: a39 :: a40 :: a41 :: a42 :: a43 :: a44 :: a45 :: a46 :: a47 :: a48 :: a49 :: a50 :: a51 :: a52 :: a53 :: a54 :: a55 :: a56 :: a57 :: a58 :: a59 :: a60 :: a61 :: a62 :: a63 :: a64 :: a65 :: a66 :: a67 :: a68 :: a69 :: a70 :: [], _ => kernel_rfl
  | a0 :: a1 :: a2 :: a3 :: a4 :: a5 :: a6 :: a7 :: a8 :: a9 :: a10 :: a11 :: a12 :: a13 :: a14 :: a15 :: a16 :: a17 :: a18 :: a19 :: a20 :: a21 :: a22 :: a23 :: a24 :: a25 :: a26 :: a27 :: a28 :: a29 :: a30 :: a31 :: a32 :: a33 :: a34 :: a35 :: a36 :: a37 :: a38 :: a39 :: a40 :: a41 :: a42 :: a43 :: a44 :: a45 :: a46 :: a47 :: a48 :: a49 :: a50 :: a51 :: a52 :: a53 :: a54 :: a55 :: a56 :: a57 :: a58 :: a59 :: a60 :: a61 :: a62 :: a63 :: a64 :: a65 :: a66 :: a67 :: a68 :: a69 :: a70 :: a71 :: [], _ => kernel_rfl
  | _ :: _ :: _ :: _ :: _ :: _ :: _ :: _ :: _ :: _ :: _ :: _ :: _ :: _ :: _ :: _ :: _ :: _ :: _ :: _ :: _ :: _ :: _ :: _ :: _ :: _ :: _ :: _ :: _ :: _ :: _ :: _ :: _ :: _ :: _ :: _ :: _ :: _ :: _ :: _ :: _ :: _ :: _ :: _ :: _ :: _ :: _ :: _ :: _ :: _ :: _ :: _ :: _ :: _ :: _ :: _ :: _ :: _ :: _ :: _ :: _ :: _ :: _ :: _ :: _ :: _ :: _ :: _ :: _ :: _ :: _ :: _ :: _ :: _, h => simp only [List.length_cons] at h; omega
theorem newCall (as : List Value) (h : as.length ≤ 72) : checkBuiltinCall "zip.__new__" ⟨.type "zip" :: as, []⟩ = pure () := by
  match as, h with
  | [], _ => kernel_rfl
  | a0 :: [], _ => kernel_rfl
  | a0 :: a1 :: [], _ => kernel_rfl
  | a0 :: a1 :: a2 :: [], _ => kernel_rfl
  | a0 :: a1 :: a2 :: a3 :: [], _ => kernel_rfl
  | a0 :: a1 :: a2 :: a3 :: a4 :: [], _ => kernel_rfl
  | a0 :: a1 :: a2 :: a3 :: a4 :: a5 :: [], _ => kernel_rfl
  | a0 :: a1 :: a2 :: a3 :: a4 :: a5 :: a6 :: [], _ => kernel_rfl
  | a0 :: a1 :: a2 :: a3 :: a4 :: a5 :: a6 :: a7 :: [], _ => kernel_rfl
  | a0 :: a1 :: a2 :: a3 :: a4 :: a5 :: a6 :: a7 :: a8 :: [], _ => kernel_rfl
  | a0 :: a1 :: a2 :: a3 :: a4 :: a5 :: a6 :: a7 :: a8 :: a9 :: [], _ => kernel_rfl
  | a0 :: a1 :: a2 :: a3 :: a4 :: a5 :: a6 :: a7 :: a8 :: a9 :: a10 :: [], _ => kernel_rfl
  | a0 :: a1 :: a2 :: a3 :: a4 :: a5 :: a6 :: a7 :: a8 :: a9 :: a10 :: a11 :: [], _ => kernel_rfl
  | a0 :: a1 :: a2 :: a3 :: a4 :: a5 :: a6 :: a7 :: a8 :: a9 :: a10 :: a11 :: a12 :: [], _ => kernel_rfl
  | a0 :: a1 :: a2 :: a3 :: a4 :: a5 :: a6 :: a7 :: a8 :: a9 :: a10 :: a11 :: a12 :: a13 :: [], _ => kernel_rfl
  | a0 :: a1 :: a2 :: a3 :: a4 :: a5 :: a6 :: a7 :: a8 :: a9 :: a10 :: a11 :: a12 :: a13 :: a14 :: [], _ => kernel_rfl
  | a0 :: a1 :: a2 :: a3 :: a4 :: a5 :: a6 :: a7 :: a8 :: a9 :: a10 :: a11 :: a12 :: a13 :: a14 :: a15 :: [], _ => kernel_rfl
  | a0 :: a1 :: a2 :: a3 :: a4 :: a5 :: a6 :: a7 :: a8 :: a9 :: a10 :: a11 :: a12 :: a13 :: a14 :: a15 :: a16 :: [], _ => kernel_rfl
  | a0 :: a1 :: a2 :: a3 :: a4 :: a5 :: a6 :: a7 :: a8 :: a9 :: a10 :: a11 :: a12 :: a13 :: a14 :: a15 :: a16 :: a17 :: [], _ => kernel_rfl
  | a0 :: a1 :: a2 :: a3 :: a4 :: a5 :: a6 :: a7 :: a8 :: a9 :: a10 :: a11 :: a12 :: a13 :: a14 :: a15 :: a16 :: a17 :: a18 :: [], _ => kernel_rfl
  | a0 :: a1 :: a2 :: a3 :: a4 :: a5 :: a6 :: a7 :: a8 :: a9 :: a10 :: a11 :: a12 :: a13 :: a14 :: a15 :: a16 :: a17 :: a18 :: a19 :: [], _ => kernel_rfl
  | a0 :: a1 :: a2 :: a3 :: a4 :: a5 :: a6 :: a7 :: a8 :: a9 :: a10 :: a11 :: a12 :: a13 :: a14 :: a15 :: a16 :: a17 :: a18 :: a19 :: a20 :: [], _ => kernel_rfl
  | a0 :: a1 :: a2 :: a3 :: a4 :: a5 :: a6 :: a7 :: a8 :: a9 :: a10 :: a11 :: a12 :: a13 :: a14 :: a15 :: a16 :: a17 :: a18 :: a19 :: a20 :: a21 :: [], _ => kernel_rfl
  | a0 :: a1 :: a2 :: a3 :: a4 :: a5 :: a6 :: a7 :: a8 :: a9 :: a10 :: a11 :: a12 :: a13 :: a14 :: a15 :: a16 :: a17 :: a18 :: a19 :: a20 :: a21 :: a22 :: [], _ => kernel_rfl
  | a0 :: a1 :: a2 :: a3 :: a4 :: a5 :: a6 :: a7 :: a8 :: a9 :: a10 :: a11 :: a12 :: a13 :: a14 :: a15 :: a16 :: a17 :: a18 :: a19 :: a20 :: a21 :: a22 :: a23 :: [], _ => kernel_rfl
  | a0 :: a1 :: a2 :: a3 :: a4 :: a5 :: a6 :: a7 :: a8 :: a9 :: a10 :: a11 :: a12 :: a13 :: a14 :: a15 :: a16 :: a17 :: a18 :: a19 :: a20 :: a21 :: a22 :: a23 :: a24 :: [], _ => kernel_rfl
  | a0 :: a1 :: a2 :: a3 :: a4 :: a5 :: a6 :: a7 :: a8 :: a9 :: a10 :: a11 :: a12 :: a13 :: a14 :: a15 :: a16 :: a17 :: a18 :: a19 :: a20 :: a21 :: a22 :: a23 :: a24 :: a25 :: [], _ => kernel_rfl
  | a0 :: a1 :: a2 :: a3 :: a4 :: a5 :: a6 :: a7 :: a8 :: a9 :: a10 :: a11 :: a12 :: a13 :: a14 :: a15 :: a16 :: a17 :: a18 :: a19 :: a20 :: a21 :: a22 :: a23 :: a24 :: a25 :: a26 :: [], _ => kernel_rfl
  | a0 :: a1 :: a2 :: a3 :: a4 :: a5 :: a6 :: a7 :: a8 :: a9 :: a10 :: a11 :: a12 :: a13 :: a14 :: a15 :: a16 :: a17 :: a18 :: a19 :: a20 :: a21 :: a22 :: a23 :: a24 :: a25 :: a26 :: a27 :: [], _ => kernel_rfl
  | a0 :: a1 :: a2 :: a3 :: a4 :: a5 :: a6 :: a7 :: a8 :: a9 :: a10 :: a11 :: a12 :: a13 :: a14 :: a15 :: a16 :: a17 :: a18 :: a19 :: a20 :: a21 :: a22 :: a23 :: a24 :: a25 :: a26 :: a27 :: a28 :: [], _ => kernel_rfl
  | a0 :: a1 :: a2 :: a3 :: a4 :: a5 :: a6 :: a7 :: a8 :: a9 :: a10 :: a11 :: a12 :: a13 :: a14 :: a15 :: a16 :: a17 :: a18 :: a19 :: a20 :: a21 :: a22 :: a23 :: a24 :: a25 :: a26 :: a27 :: a28 :: a29 :: [], _ => kernel_rfl
  | a0 :: a1 :: a2 :: a3 :: a4 :: a5 :: a6 :: a7 :: a8 :: a9 :: a10 :: a11 :: a12 :: a13 :: a14 :: a15 :: a16 :: a17 :: a18 :: a19 :: a20 :: a21 :: a22 :: a23 :: a24 :: a25 :: a26 :: a27 :: a28 :: a29 :: a30 :: [], _ => kernel_rfl
  | a0 :: a1 :: a2 :: a3 :: a4 :: a5 :: a6 :: a7 :: a8 :: a9 :: a10 :: a11 :: a12 :: a13 :: a14 :: a15 :: a16 :: a17 :: a18 :: a19 :: a20 :: a21 :: a22 :: a23 :: a24 :: a25 :: a26 :: a27 :: a28 :: a29 :: a30 :: a31 :: [], _ => kernel_rfl
  | a0 :: a1 :: a2 :: a3 :: a4 :: a5 :: a6 :: a7 :: a8 :: a9 :: a10 :: a11 :: a12 :: a13 :: a14 :: a15 :: a16 :: a17 :: a18 :: a19 :: a20 :: a21 :: a22 :: a23 :: a24 :: a25 :: a26 :: a27 :: a28 :: a29 :: a30 :: a31 :: a32 :: [], _ => kernel_rfl
  | a0 :: a1 :: a2 :: a3 :: a4 :: a5 :: a6 :: a7 :: a8 :: a9 :: a10 :: a11 :: a12 :: a13 :: a14 :: a15 :: a16 :: a17 :: a18 :: a19 :: a20 :: a21 :: a22 :: a23 :: a24 :: a25 :: a26 :: a27 :: a28 :: a29 :: a30 :: a31 :: a32 :: a33 :: [], _ => kernel_rfl
  | a0 :: a1 :: a2 :: a3 :: a4 :: a5 :: a6 :: a7 :: a8 :: a9 :: a10 :: a11 :: a12 :: a13 :: a14 :: a15 :: a16 :: a17 :: a18 :: a19 :: a20 :: a21 :: a22 :: a23 :: a24 :: a25 :: a26 :: a27 :: a28 :: a29 :: a30 :: a31 :: a32 :: a33 :: a34 :: [], _ => kernel_rfl
  | a0 :: a1 :: a2 :: a3 :: a4 :: a5 :: a6 :: a7 :: a8 :: a9 :: a10 :: a11 :: a12 :: a13 :: a14 :: a15 :: a16 :: a17 :: a18 :: a19 :: a20 :: a21 :: a22 :: a23 :: a24 :: a25 :: a26 :: a27 :: a28 :: a29 :: a30 :: a31 :: a32 :: a33 :: a34 :: a35 :: [], _ => kernel_rfl
  | a0 :: a1 :: a2 :: a3 :: a4 :: a5 :: a6 :: a7 :: a8 :: a9 :: a10 :: a11 :: a12 :: a13 :: a14 :: a15 :: a16 :: a17 :: a18 :: a19 :: a20 :: a21 :: a22 :: a23 :: a24 :: a25 :: a26 :: a27 :: a28 :: a29 :: a30 :: a31 :: a32 :: a33 :: a34 :: a35 :: a36 :: [], _ => kernel_rfl
  | a0 :: a1 :: a2 :: a3 :: a4 :: a5 :: a6 :: a7 :: a8 :: a9 :: a10 :: a11 :: a12 :: a13 :: a14 :: a15 :: a16 :: a17 :: a18 :: a19 :: a20 :: a21 :: a22 :: a23 :: a24 :: a25 :: a26 :: a27 :: a28 :: a29 :: a30 :: a31 :: a32 :: a33 :: a34 :: a35 :: a36 :: a37 :: [], _ => kernel_rfl
  | a0 :: a1 :: a2 :: a3 :: a4 :: a5 :: a6 :: a7 :: a8 :: a9 :: a10 :: a11 :: a12 :: a13 :: a14 :: a15 :: a16 :: a17 :: a18 :: a19 :: a20 :: a21 :: a22 :: a23 :: a24 :: a25 :: a26 :: a27 :: a28 :: a29 :: a30 :: a31 :: a32 :: a33 :: a34 :: a35 :: a36 :: a37 :: a38 :: [], _ => kernel_rfl
  | a0 :: a1 :: a2 :: a3 :: a4 :: a5 :: a6 :: a7 :: a8 :: a9 :: a10 :: a11 :: a12 :: a13 :: a14 :: a15 :: a16 :: a17 :: a18 :: a19 :: a20 :: a21 :: a22 :: a23 :: a24 :: a25 :: a26 :: a27 :: a28 :: a29 :: a30 :: a31 :: a32 :: a33 :: a34 :: a35 :: a36 :: a37 :: a38 :: a39 :: [], _ => kernel_rfl
  | a0 :: a1 :: a2 :: a3 :: a4 :: a5 :: a6 :: a7 :: a8 :: a9 :: a10 :: a11 :: a12 :: a13 :: a14 :: a15 :: a16 :: a17 :: a18 :: a19 :: a20 :: a21 :: a22 :: a23 :: a24 :: a25 :: a26 :: a27 :: a28 :: a29 :: a30 :: a31 :: a32 :: a33 :: a34 :: a35 :: a36 :: a37 :: a38 :: a39 :: a40 :: [], _ => kernel_rfl
  | a0 :: a1 :: a2 :: a3 :: a4 :: a5 :: a6 :: a7 :: a8 :: a9 :: a10 :: a11 :: a12 :: a13 :: a14 :: a15 :: a16 :: a17 :: a18 :: a19 :: a20 :: a21 :: a22 :: a23 :: a24 :: a25 :: a26 :: a27 :: a28 :: a29 :: a30 :: a31 :: a32 :: a33 :: a34 :: a35 :: a36 :: a37 :: a38 :: a39 :: a40 :: a41 :: [], _ => kernel_rfl
  | a0 :: a1 :: a2 :: a3 :: a4 :: a5 :: a6 :: a7 :: a8 :: a9 :: a10 :: a11 :: a12 :: a13 :: a14 :: a15 :: a16 :: a17 :: a18 :: a19 :: a20 :: a21 :: a22 :: a23 :: a24 :: a25 :: a26 :: a27 :: a28 :: a29 :: a30 :: a31 :: a32 :: a33 :: a34 :: a35 :: a36 :: a37 :: a38 :: a39 :: a40 :: a41 :: a42 :: [], _ => kernel_rfl
  | a0 :: a1 :: a2 :: a3 :: a4 :: a5 :: a6 :: a7 :: a8 :: a9 :: a10 :: a11 :: a12 :: a13 :: a14 :: a15 :: a16 :: a17 :: a18 :: a19 :: a20 :: a21 :: a22 :: a23 :: a24 :: a25 :: a26 :: a27 :: a28 :: a29 :: a30 :: a31 :: a32 :: a33 :: a34 :: a35 :: a36 :: a37 :: a38 :: a39 :: a40 :: a41 :: a42 :: a43 :: [], _ => kernel_rfl
  | a0 :: a1 :: a2 :: a3 :: a4 :: a5 :: a6 :: a7 :: a8 :: a9 :: a10 :: a11 :: a12 :: a13 :: a14 :: a15 :: a16 :: a17 :: a18 :: a19 :: a20 :: a21 :: a22 :: a23 :: a24 :: a25 :: a26 :: a27 :: a28 :: a29 :: a30 :: a31 :: a32 :: a33 :: a34 :: a35 :: a36 :: a37 :: a38 :: a39 :: a40 :: a41 :: a42 :: a43 :: a44 :: [], _ => kernel_rfl
  | a0 :: a1 :: a2 :: a3 :: a4 :: a5 :: a6 :: a7 :: a8 :: a9 :: a10 :: a11 :: a12 :: a13 :: a14 :: a15 :: a16 :: a17 :: a18 :: a19 :: a20 :: a21 :: a22 :: a23 :: a24 :: a25 :: a26 :: a27 :: a28 :: a29 :: a30 :: a31 :: a32 :: a33 :: a34 :: a35 :: a36 :: a37 :: a38 :: a39 :: a40 :: a41 :: a42 :: a43 :: a44 :: a45 :: [], _ => kernel_rfl
  | a0 :: a1 :: a2 :: a3 :: a4 :: a5 :: a6 :: a7 :: a8 :: a9 :: a10 :: a11 :: a12 :: a13 :: a14 :: a15 :: a16 :: a17 :: a18 :: a19 :: a20 :: a21 :: a22 :: a23 :: a24 :: a25 :: a26 :: a27 :: a28 :: a29 :: a30 :: a31 :: a32 :: a33 :: a34 :: a35 :: a36 :: a37 :: a38 :: a39 :: a40 :: a41 :: a42 :: a43 :: a44 :: a45 :: a46 :: [], _ => kernel_rfl
  | a0 :: a1 :: a2 :: a3 :: a4 :: a5 :: a6 :: a7 :: a8 :: a9 :: a10 :: a11 :: a12 :: a13 :: a14 :: a15 :: a16 :: a17 :: a18 :: a19 :: a20 :: a21 :: a22 :: a23 :: a24 :: a25 :: a26 :: a27 :: a28 :: a29 :: a30 :: a31 :: a32 :: a33 :: a34 :: a35 :: a36 :: a37 :: a38 :: a39 :: a40 :: a41 :: a42 :: a43 :: a44 :: a45 :: a46 :: a47 :: [], _ => kernel_rfl
  | a0 :: a1 :: a2 :: a3 :: a4 :: a5 :: a6 :: a7 :: a8 :: a9 :: a10 :: a11 :: a12 :: a13 :: a14 :: a15 :: a16 :: a17 :: a18 :: a19 :: a20 :: a21 :: a22 :: a23 :: a24 :: a25 :: a26 :: a27 :: a28 :: a29 :: a30 :: a31 :: a32 :: a33 :: a34 :: a35 :: a36 :: a37 :: a38 :: a39 :: a40 :: a41 :: a42 :: a43 :: a44 :: a45 :: a46 :: a47 :: a48 :: [], _ => kernel_rfl
  | a0 :: a1 :: a2 :: a3 :: a4 :: a5 :: a6 :: a7 :: a8 :: a9 :: a10 :: a11 :: a12 :: a13 :: a14 :: a15 :: a16 :: a17 :: a18 :: a19 :: a20 :: a21 :: a22 :: a23 :: a24 :: a25 :: a26 :: a27 :: a28 :: a29 :: a30 :: a31 :: a32 :: a33 :: a34 :: a35 :: a36 :: a37 :: a38 :: a39 :: a40 :: a41 :: a42 :: a43 :: a44 :: a45 :: a46 :: a47 :: a48 :: a49 :: [], _ => kernel_rfl
  | a0 :: a1 :: a2 :: a3 :: a4 :: a5 :: a6 :: a7 :: a8 :: a9 :: a10 :: a11 :: a12 :: a13 :: a14 :: a15 :: a16 :: a17 :: a18 :: a19 :: a20 :: a21 :: a22 :: a23 :: a24 :: a25 :: a26 :: a27 :: a28 :: a29 :: a30 :: a31 :: a32 :: a33 :: a34 :: a35 :: a36 :: a37 :: a38 :: a39 :: a40 :: a41 :: a42 :: a43 :: a44 :: a45 :: a46 :: a47 :: a48 :: a49 :: a50 :: [], _ => kernel_rfl
  | a0 :: a1 :: a2 :: a3 :: a4 :: a5 :: a6 :: a7 :: a8 :: a9 :: a10 :: a11 :: a12 :: a13 :: a14 :: a15 :: a16 :: a17 :: a18 :: a19 :: a20 :: a21 :: a22 :: a23 :: a24 :: a25 :: a26 :: a27 :: a28 :: a29 :: a30 :: a31 :: a32 :: a33 :: a34 :: a35 :: a36 :: a37 :: a38 :: a39 :: a40 :: a41 :: a42 :: a43 :: a44 :: a45 :: a46 :: a47 :: a48 :: a49 :: a50 :: a51 :: [], _ => kernel_rfl
  | a0 :: a1 :: a2 :: a3 :: a4 :: a5 :: a6 :: a7 :: a8 :: a9 :: a10 :: a11 :: a12 :: a13 :: a14 :: a15 :: a16 :: a17 :: a18 :: a19 :: a20 :: a21 :: a22 :: a23 :: a24 :: a25 :: a26 :: a27 :: a28 :: a29 :: a30 :: a31 :: a32 :: a33 :: a34 :: a35 :: a36 :: a37 :: a38 :: a39 :: a40 :: a41 :: a42 :: a43 :: a44 :: a45 :: a46 :: a47 :: a48 :: a49 :: a50 :: a51 :: a52 :: [], _ => kernel_rfl
  | a0 :: a1 :: a2 :: a3 :: a4 :: a5 :: a6 :: a7 :: a8 :: a9 :: a10 :: a11 :: a12 :: a13 :: a14 :: a15 :: a16 :: a17 :: a18 :: a19 :: a20 :: a21 :: a22 :: a23 :: a24 :: a25 :: a26 :: a27 :: a28 :: a29 :: a30 :: a31 :: a32 :: a33 :: a34 :: a35 :: a36 :: a37 :: a38 :: a39 :: a40 :: a41 :: a42 :: a43 :: a44 :: a45 :: a46 :: a47 :: a48 :: a49 :: a50 :: a51 :: a52 :: a53 :: [], _ => kernel_rfl
  | a0 :: a1 :: a2 :: a3 :: a4 :: a5 :: a6 :: a7 :: a8 :: a9 :: a10 :: a11 :: a12 :: a13 :: a14 :: a15 :: a16 :: a17 :: a18 :: a19 :: a20 :: a21 :: a22 :: a23 :: a24 :: a25 :: a26 :: a27 :: a28 :: a29 :: a30 :: a31 :: a32 :: a33 :: a34 :: a35 :: a36 :: a37 :: a38 :: a39 :: a40 :: a41 :: a42 :: a43 :: a44 :: a45 :: a46 :: a47 :: a48 :: a49 :: a50 :: a51 :: a52 :: a53 :: a54 :: [], _ => kernel_rfl
  | a0 :: a1 :: a2 :: a3 :: a4 :: a5 :: a6 :: a7 :: a8 :: a9 :: a10 :: a11 :: a12 :: a13 :: a14 :: a15 :: a16 :: a17 :: a18 :: a19 :: a20 :: a21 :: a22 :: a23 :: a24 :: a25 :: a26 :: a27 :: a28 :: a29 :: a30 :: a31 :: a32 :: a33 :: a34 :: a35 :: a36 :: a37 :: a38 :: a39 :: a40 :: a41 :: a42 :: a43 :: a44 :: a45 :: a46 :: a47 :: a48 :: a49 :: a50 :: a51 :: a52 :: a53 :: a54 :: a55 :: [], _ => kernel_rfl
  | a0 :: a1 :: a2 :: a3 :: a4 :: a5 :: a6 :: a7 :: a8 :: a9 :: a10 :: a11 :: a12 :: a13 :: a14 :: a15 :: a16 :: a17 :: a18 :: a19 :: a20 :: a21 :: a22 :: a23 :: a24 :: a25 :: a26 :: a27 :: a28 :: a29 :: a30 :: a31 :: a32 :: a33 :: a34 :: a35 :: a36 :: a37 :: a38 :: a39 :: a40 :: a41 :: a42 :: a43 :: a44 :: a45 :: a46 :: a47 :: a48 :: a49 :: a50 :: a51 :: a52 :: a53 :: a54 :: a55 :: a56 :: [], _ => kernel_rfl
  | a0 :: a1 :: a2 :: a3 :: a4 :: a5 :: a6 :: a7 :: a8 :: a9 :: a10 :: a11 :: a12 :: a13 :: a14 :: a15 :: a16 :: a17 :: a18 :: a19 :: a20 :: a21 :: a22 :: a23 :: a24 :: a25 :: a26 :: a27 :: a28 :: a29 :: a30 :: a31 :: a32 :: a33 :: a34 :: a35 :: a36 :: a37 :: a38 :: a39 :: a40 :: a41 :: a42 :: a43 :: a44 :: a45 :: a46 :: a47 :: a48 :: a49 :: a50 :: a51 :: a52 :: a53 :: a54 :: a55 :: a56 :: a57 :: [], _ => kernel_rfl
  | a0 :: a1 :: a2 :: a3 :: a4 :: a5 :: a6 :: a7 :: a8 :: a9 :: a10 :: a11 :: a12 :: a13 :: a14 :: a15 :: a16 :: a17 :: a18 :: a19 :: a20 :: a21 :: a22 :: a23 :: a24 :: a25 :: a26 :: a27 :: a28 :: a29 :: a30 :: a31 :: a32 :: a33 :: a34 :: a35 :: a36 :: a37 :: a38 :: a39 :: a40 :: a41 :: a42 :: a43 :: a44 :: a45 :: a46 :: a47 :: a48 :: a49 :: a50 :: a51 :: a52 :: a53 :: a54 :: a55 :: a56 :: a57 :: a58 :: [], _ => kernel_rfl
  | a0 :: a1 :: a2 :: a3 :: a4 :: a5 :: a6 :: a7 :: a8 :: a9 :: a10 :: a11 :: a12 :: a13 :: a14 :: a15 :: a16 :: a17 :: a18 :: a19 :: a20 :: a21 :: a22 :: a23 :: a24 :: a25 :: a26 :: a27 :: a28 :: a29 :: a30 :: a31 :: a32 :: a33 :: a34 :: a35 :: a36 :: a37 :: a38 :: a39 :: a40 :: a41 :: a42 :: a43 :: a44 :: a45 :: a46 :: a47 :: a48 :: a49 :: a50 :: a51 :: a52 :: a53 :: a54 :: a55 :: a56 :: a57 :: a58 :: a59 :: [], _ => kernel_rfl
  | a0 :: a1 :: a2 :: a3 :: a4 :: a5 :: a6 :: a7 :: a8 :: a9 :: a10 :: a11 :: a12 :: a13 :: a14 :: a15 :: a16 :: a17 :: a18 :: a19 :: a20 :: a21 :: a22 :: a23 :: a24 :: a25 :: a26 :: a27 :: a28 :: a29 :: a30 :: a31 :: a32 :: a33 :: a34 :: a35 :: a36 :: a37 :: a38 :: a39 :: a40 :: a41 :: a42 :: a43 :: a44 :: a45 :: a46 :: a47 :: a48 :: a49 :: a50 :: a51 :: a52 :: a53 :: a54 :: a55 :: a56 :: a57 :: a58 :: a59 :: a60 :: [], _ => kernel_rfl
  | a0 :: a1 :: a2 :: a3 :: a4 :: a5 :: a6 :: a7 :: a8 :: a9 :: a10 :: a11 :: a12 :: a13 :: a14 :: a15 :: a16 :: a17 :: a18 :: a19 :: a20 :: a21 :: a22 :: a23 :: a24 :: a25 :: a26 :: a27 :: a28 :: a29 :: a30 :: a31 :: a32 :: a33 :: a34 :: a35 :: a36 :: a37 :: a38 :: a39 :: a40 :: a41 :: a42 :: a43 :: a44 :: a45 :: a46 :: a47 :: a48 :: a49 :: a50 :: a51 :: a52 :: a53 :: a54 :: a55 :: a56 :: a57 :: a58 :: a59 :: a60 :: a61 :: [], _ => kernel_rfl
  | a0 :: a1 :: a2 :: a3 :: a4 :: a5 :: a6 :: a7 :: a8 :: a9 :: a10 :: a11 :: a12 :: a13 :: a14 :: a15 :: a16 :: a17 :: a18 :: a19 :: a20 :: a21 :: a22 :: a23 :: a24 :: a25 :: a26 :: a27 :: a28 :: a29 :: a30 :: a31 :: a32 :: a33 :: a34 :: a35 :: a36 :: a37 :: a38 :: a39 :: a40 :: a41 :: a42 :: a43 :: a44 :: a45 :: a46 :: a47 :: a48 :: a49 :: a50 :: a51 :: a52 :: a53 :: a54 :: a55 :: a56 :: a57 :: a58 :: a59 :: a60 :: a61 :: a62 :: [], _ => kernel_rfl
  | a0 :: a1 :: a2 :: a3 :: a4 :: a5 :: a6 :: a7 :: a8 :: a9 :: a10 :: a11 :: a12 :: a13 :: a14 :: a15 :: a16 :: a17 :: a18 :: a19 :: a20 :: a21 :: a22 :: a23 :: a24 :: a25 :: a26 :: a27 :: a28 :: a29 :: a30 :: a31 :: a32 :: a33 :: a34 :: a35 :: a36 :: a37 :: a38 :: a39 :: a40 :: a41 :: a42 :: a43 :: a44 :: a45 :: a46 :: a47 :: a48 :: a49 :: a50 :: a51 :: a52 :: a53 :: a54 :: a55 :: a56 :: a57 :: a58 :: a59 :: a60 :: a61 :: a62 :: a63 :: [], _ => kernel_rfl
  | a0 :: a1 :: a2 :: a3 :: a4 :: a5 :: a6 :: a7 :: a8 :: a9 :: a10 :: a11 :: a12 :: a13 :: a14 :: a15 :: a16 :: a17 :: a18 :: a19 :: a20 :: a21 :: a22 :: a23 :: a24 :: a25 :: a26 :: a27 :: a28 :: a29 :: a30 :: a31 :: a32 :: a33 :: a34 :: a35 :: a36 :: a37 :: a38 :: a39 :: a40 :: a41 :: a42 :: a43 :: a44 :: a45 :: a46 :: a47 :: a48 :: a49 :: a50 :: a51 :: a52 :: a53 :: a54 :: a55 :: a56 :: a57 :: a58 :: a59 :: a60 :: a61 :: a62 :: a63 :: a64 :: [], _ => kernel_rfl
  | a0 :: a1 :: a2 :: a3 :: a4 :: a5 :: a6 :: a7 :: a8 :: a9 :: a10 :: a11 :: a12 :: a13 :: a14 :: a15 :: a16 :: a17 :: a18 :: a19 :: a20 :: a21 :: a22 :: a23 :: a24 :: a25 :: a26 :: a27 :: a28 :: a29 :: a30 :: a31 :: a32 :: a33 :: a34 :: a35 :: a36 :: a37 :: a38 :: a39 :: a40 :: a41 :: a42 :: a43 :: a44 :: a45 :: a46 :: a47 :: a48 :: a49 :: a50 :: a51 :: a52 :: a53 :: a54 :: a55 :: a56 :: a57 :: a58 :: a59 :: a60 :: a61 :: a62 :: a63 :: a64 :: a65 :: [], _ => kernel_rfl
  | a0 :: a1 :: a2 :: a3 :: a4 :: a5 :: a6 :: a7 :: a8 :: a9 :: a10 :: a11 :: a12 :: a13 :: a14 :: a15 :: a16 :: a17 :: a18 :: a19 :: a20 :: a21 :: a22 :: a23 :: a24 :: a25 :: a26 :: a27 :: a28 :: a29 :: a30 :: a31 :: a32 :: a33 :: a34 :: a35 :: a36 :: a37 :: a38 :: a39 :: a40 :: a41 :: a42 :: a43 :: a44 :: a45 :: a46 :: a47 :: a48 :: a49 :: a50 :: a51 :: a52 :: a53 :: a54 :: a55 :: a56 :: a57 :: a58 :: a59 :: a60 :: a61 :: a62 :: a63 :: a64 :: a65 :: a66 :: [], _ => kernel_rfl
  | a0 :: a1 :: a2 :: a3 :: a4 :: a5 :: a6 :: a7 :: a8 :: a9 :: a10 :: a11 :: a12 :: a13 :: a14 :: a15 :: a16 :: a17 :: a18 :: a19 :: a20 :: a21 :: a22 :: a23 :: a24 :: a25 :: a26 :: a27 :: a28 :: a29 :: a30 :: a31 :: a32 :: a33 :: a34 :: a35 :: a36 :: a37 :: a38 :: a39 :: a40 :: a41 :: a42 :: a43 :: a44 :: a45 :: a46 :: a47 :: a48 :: a49 :: a50 :: a51 :: a52 :: a53 :: a54 :: a55 :: a56 :: a57 :: a58 :: a59 :: a60 :: a61 :: a62 :: a63 :: a64 :: a65 :: a66 :: a67 :: [], _ => kernel_rfl
  | a0 :: a1 :: a2 :: a3 :: a4 :: a5 :: a6 :: a7 :: a8 :: a9 :: a10 :: a11 :: a12 :: a13 :: a14 :: a15 :: a16 :: a17 :: a18 :: a19 :: a20 :: a21 :: a22 :: a23 :: a24 :: a25 :: a26 :: a27 :: a28 :: a29 :: a30 :: a31 :: a32 :: a33 :: a34 :: a35 :: a36 :: a37 :: a38 :: a39 :: a40 :: a41 :: a42 :: a43 :: a44 :: a45 :: a46 :: a47 :: a48 :: a49 :: a50 :: a51 :: a52 :: a53 :: a54 :: a55 :: a56 :: a57 :: a58 :: a59 :: a60 :: a61 :: a62 :: a63 :: a64 :: a65 :: a66 :: a67 :: a68 :: [], _ => kernel_rfl
  | a0 :: a1 :: a2 :: a3 :: a4 :: a5 :: a6 :: a7 :: a8 :: a9 :: a10 :: a11 :: a12 :: a13 :: a14 :: a15 :: a16 :: a17 :: a18 :: a19 :: a20 :: a21 :: a22 :: a23 :: a24 :: a25 :: a26 :: a27 :: a28 :: a29 :: a30 :: a31 :: a32 :: a33 :: a34 :: a35 :: a36 :: a37 :: a38 :: a39 :: a40 :: a41 :: a42 :: a43 :: a44 :: a45 :: a46 :: a47 :: a48 :: a49 :: a50 :: a51 :: a52 :: a53 :: a54 :: a55 :: a56 :: a57 :: a58 :: a59 :: a60 :: a61 :: a62 :: a63 :: a64 :: a65 :: a66 :: a67 :: a68 :: a69 :: [], _ => kernel_rfl
  | a0 :: a1 :: a2 :: a3 :: a4 :: a5 :: a6 :: a7 :: a8 :: a9 :: a10 :: a11 :: a12 :: a13 :: a14 :: a15 :: a16 :: a17 :: a18 :: a19 :: a20 :: a21 :: a22 :: a23 :: a24 :: a25 :: a26 :: a27 :: a28 :: a29 :: a30 :: a31 :: a32 :: a33 :: a34 :: a35 :: a36 :: a37 :: a38 :: a39 :: a40 :: a41 :: a42 :: a43 :: a44 :: a45 :: a46 :: a47 :: a48 :: a49 :: a50 :: a51 :: a52 :: a53 :: a54 :: a55 :: a56 :: a57 :: a58 :: a59 :: a60 :: a61 :: a62 :: a63 :: a64 :: a65 :: a66 :: a67 :: a68 :: a69 :: a70 :: [], _ => kernel_rfl
  | a0 :: a1 :: a2 :: a3 :: a4 :: a5 :: a6 :: a7 :: a8 :: a9 :: a10 :: a11 :: a12 :: a13 :: a14 :: a15 :: a16 :: a17 :: a18 :: a19 :: a20 :: a21 :: a22 :: a23 :: a24 :: a25 :: a26 :: a27 :: a28 :: a29 :: a30 :: a31 :: a32 :: a33 :: a34 :: a35 :: a36 :: a37 :: a38 :: a39 :: a40 :: a41 :: a42 :: a43 :: a44 :: a45 :: a46 :: a47 :: a48 :: a49 :: a50 :: a51 :: a52 :: a53 :: a54 :: a55 :: a56 :: a57 :: a58 :: a59 :: a60 :: a61 :: a62 :: a63 :: a64 :: a65 :: a66 :: a67 :: a68 :: a69 :: a70 :: a71 :: [], _ => kernel_rfl
  | _ :: _ :: _ :: _ :: _ :: _ :: _ :: _ :: _ :: _ :: _ :: _ :: _ :: _ :: _ :: _ :: _ :: _ :: _ :: _ :: _ :: _ :: _ :: _ :: _ :: _ :: _ :: _ :: _ :: _ :: _ :: _ :: _ :: _ :: _ :: _ :: _ :: _ :: _ :: _ :: _ :: _ :: _ :: _ :: _ :: _ :: _ :: _ :: _ :: _ :: _ :: _ :: _ :: _ :: _ :: _ :: _ :: _ :: _ :: _ :: _ :: _ :: _ :: _ :: _ :: _ :: _ :: _ :: _ :: _ :: _ :: _ :: _ :: _, h => simp only [List.length_cons] at h; omega
theorem initArgs (o : Value) (as : List Value) (h : as.length ≤ 72) : argsOk "object.__init__" ⟨o :: as, []⟩ := by
  unfold argsOk
  rw [signature?_of (id := "object.__init__") (n := ['_', '_', 't', 'i', 'n', 'i', '_', '_']) (o := ['t', 'c', 'e', 'j', 'b', 'o']) (by kernel_rfl) F.owner_object]
  match as, h with
  | [], _ => kernel_rfl
  | a0 :: [], _ => kernel_rfl
  | a0 :: a1 :: [], _ => kernel_rfl
  | a0 :: a1 :: a2 :: [], _ => kernel_rfl
  | a0 :: a1 :: a2 :: a3 :: [], _ => kernel_rfl
  | a0 :: a1 :: a2 :: a3 :: a4 :: [], _ => kernel_rfl
  | a0 :: a1 :: a2 :: a3 :: a4 :: a5 :: [], _ => kernel_rfl
  | a0 :: a1 :: a2 :: a3 :: a4 :: a5 :: a6 :: [], _ => kernel_rfl
  | a0 :: a1 :: a2 :: a3 :: a4 :: a5 :: a6 :: a7 :: [], _ => kernel_rfl
  | a0 :: a1 :: a2 :: a3 :: a4 :: a5 :: a6 :: a7 :: a8 :: [], _ => kernel_rfl
  | a0 :: a1 :: a2 :: a3 :: a4 :: a5 :: a6 :: a7 :: a8 :: a9 :: [], _ => kernel_rfl
  | a0 :: a1 :: a2 :: a3 :: a4 :: a5 :: a6 :: a7 :: a8 :: a9 :: a10 :: [], _ => kernel_rfl
  | a0 :: a1 :: a2 :: a3 :: a4 :: a5 :: a6 :: a7 :: a8 :: a9 :: a10 :: a11 :: [], _ => kernel_rfl
  | a0 :: a1 :: a2 :: a3 :: a4 :: a5 :: a6 :: a7 :: a8 :: a9 :: a10 :: a11 :: a12 :: [], _ => kernel_rfl
  | a0 :: a1 :: a2 :: a3 :: a4 :: a5 :: a6 :: a7 :: a8 :: a9 :: a10 :: a11 :: a12 :: a13 :: [], _ => kernel_rfl
  | a0 :: a1 :: a2 :: a3 :: a4 :: a5 :: a6 :: a7 :: a8 :: a9 :: a10 :: a11 :: a12 :: a13 :: a14 :: [], _ => kernel_rfl
  | a0 :: a1 :: a2 :: a3 :: a4 :: a5 :: a6 :: a7 :: a8 :: a9 :: a10 :: a11 :: a12 :: a13 :: a14 :: a15 :: [], _ => kernel_rfl
  | a0 :: a1 :: a2 :: a3 :: a4 :: a5 :: a6 :: a7 :: a8 :: a9 :: a10 :: a11 :: a12 :: a13 :: a14 :: a15 :: a16 :: [], _ => kernel_rfl
  | a0 :: a1 :: a2 :: a3 :: a4 :: a5 :: a6 :: a7 :: a8 :: a9 :: a10 :: a11 :: a12 :: a13 :: a14 :: a15 :: a16 :: a17 :: [], _ => kernel_rfl
  | a0 :: a1 :: a2 :: a3 :: a4 :: a5 :: a6 :: a7 :: a8 :: a9 :: a10 :: a11 :: a12 :: a13 :: a14 :: a15 :: a16 :: a17 :: a18 :: [], _ => kernel_rfl
  | a0 :: a1 :: a2 :: a3 :: a4 :: a5 :: a6 :: a7 :: a8 :: a9 :: a10 :: a11 :: a12 :: a13 :: a14 :: a15 :: a16 :: a17 :: a18 :: a19 :: [], _ => kernel_rfl
  | a0 :: a1 :: a2 :: a3 :: a4 :: a5 :: a6 :: a7 :: a8 :: a9 :: a10 :: a11 :: a12 :: a13 :: a14 :: a15 :: a16 :: a17 :: a18 :: a19 :: a20 :: [], _ => kernel_rfl
  | a0 :: a1 :: a2 :: a3 :: a4 :: a5 :: a6 :: a7 :: a8 :: a9 :: a10 :: a11 :: a12 :: a13 :: a14 :: a15 :: a16 :: a17 :: a18 :: a19 :: a20 :: a21 :: [], _ => kernel_rfl
  | a0 :: a1 :: a2 :: a3 :: a4 :: a5 :: a6 :: a7 :: a8 :: a9 :: a10 :: a11 :: a12 :: a13 :: a14 :: a15 :: a16 :: a17 :: a18 :: a19 :: a20 :: a21 :: a22 :: [], _ => kernel_rfl
  | a0 :: a1 :: a2 :: a3 :: a4 :: a5 :: a6 :: a7 :: a8 :: a9 :: a10 :: a11 :: a12 :: a13 :: a14 :: a15 :: a16 :: a17 :: a18 :: a19 :: a20 :: a21 :: a22 :: a23 :: [], _ => kernel_rfl
  | a0 :: a1 :: a2 :: a3 :: a4 :: a5 :: a6 :: a7 :: a8 :: a9 :: a10 :: a11 :: a12 :: a13 :: a14 :: a15 :: a16 :: a17 :: a18 :: a19 :: a20 :: a21 :: a22 :: a23 :: a24 :: [], _ => kernel_rfl
  | a0 :: a1 :: a2 :: a3 :: a4 :: a5 :: a6 :: a7 :: a8 :: a9 :: a10 :: a11 :: a12 :: a13 :: a14 :: a15 :: a16 :: a17 :: a18 :: a19 :: a20 :: a21 :: a22 :: a23 :: a24 :: a25 :: [], _ => kernel_rfl
  | a0 :: a1 :: a2 :: a3 :: a4 :: a5 :: a6 :: a7 :: a8 :: a9 :: a10 :: a11 :: a12 :: a13 :: a14 :: a15 :: a16 :: a17 :: a18 :: a19 :: a20 :: a21 :: a22 :: a23 :: a24 :: a25 :: a26 :: [], _ => kernel_rfl
  | a0 :: a1 :: a2 :: a3 :: a4 :: a5 :: a6 :: a7 :: a8 :: a9 :: a10 :: a11 :: a12 :: a13 :: a14 :: a15 :: a16 :: a17 :: a18 :: a19 :: a20 :: a21 :: a22 :: a23 :: a24 :: a25 :: a26 :: a27 :: [], _ => kernel_rfl
  | a0 :: a1 :: a2 :: a3 :: a4 :: a5 :: a6 :: a7 :: a8 :: a9 :: a10 :: a11 :: a12 :: a13 :: a14 :: a15 :: a16 :: a17 :: a18 :: a19 :: a20 :: a21 :: a22 :: a23 :: a24 :: a25 :: a26 :: a27 :: a28 :: [], _ => kernel_rfl
  | a0 :: a1 :: a2 :: a3 :: a4 :: a5 :: a6 :: a7 :: a8 :: a9 :: a10 :: a11 :: a12 :: a13 :: a14 :: a15 :: a16 :: a17 :: a18 :: a19 :: a20 :: a21 :: a22 :: a23 :: a24 :: a25 :: a26 :: a27 :: a28 :: a29 :: [], _ => kernel_rfl
  | a0 :: a1 :: a2 :: a3 :: a4 :: a5 :: a6 :: a7 :: a8 :: a9 :: a10 :: a11 :: a12 :: a13 :: a14 :: a15 :: a16 :: a17 :: a18 :: a19 :: a20 :: a21 :: a22 :: a23 :: a24 :: a25 :: a26 :: a27 :: a28 :: a29 :: a30 :: [], _ => kernel_rfl
  | a0 :: a1 :: a2 :: a3 :: a4 :: a5 :: a6 :: a7 :: a8 :: a9 :: a10 :: a11 :: a12 :: a13 :: a14 :: a15 :: a16 :: a17 :: a18 :: a19 :: a20 :: a21 :: a22 :: a23 :: a24 :: a25 :: a26 :: a27 :: a28 :: a29 :: a30 :: a31 :: [], _ => kernel_rfl
  | a0 :: a1 :: a2 :: a3 :: a4 :: a5 :: a6 :: a7 :: a8 :: a9 :: a10 :: a11 :: a12 :: a13 :: a14 :: a15 :: a16 :: a17 :: a18 :: a19 :: a20 :: a21 :: a22 :: a23 :: a24 :: a25 :: a26 :: a27 :: a28 :: a29 :: a30 :: a31 :: a32 :: [], _ => kernel_rfl
  | a0 :: a1 :: a2 :: a3 :: a4 :: a5 :: a6 :: a7 :: a8 :: a9 :: a10 :: a11 :: a12 :: a13 :: a14 :: a15 :: a16 :: a17 :: a18 :: a19 :: a20 :: a21 :: a22 :: a23 :: a24 :: a25 :: a26 :: a27 :: a28 :: a29 :: a30 :: a31 :: a32 :: a33 :: [], _ => kernel_rfl
  | a0 :: a1 :: a2 :: a3 :: a4 :: a5 :: a6 :: a7 :: a8 :: a9 :: a10 :: a11 :: a12 :: a13 :: a14 :: a15 :: a16 :: a17 :: a18 :: a19 :: a20 :: a21 :: a22 :: a23 :: a24 :: a25 :: a26 :: a27 :: a28 :: a29 :: a30 :: a31 :: a32 :: a33 :: a34 :: [], _ => kernel_rfl
  | a0 :: a1 :: a2 :: a3 :: a4 :: a5 :: a6 :: a7 :: a8 :: a9 :: a10 :: a11 :: a12 :: a13 :: a14 :: a15 :: a16 :: a17 :: a18 :: a19 :: a20 :: a21 :: a22 :: a23 :: a24 :: a25 :: a26 :: a27 :: a28 :: a29 :: a30 :: a31 :: a32 :: a33 :: a34 :: a35 :: [], _ => kernel_rfl
  | a0 :: a1 :: a2 :: a3 :: a4 :: a5 :: a6 :: a7 :: a8 :: a9 :: a10 :: a11 :: a12 :: a13 :: a14 :: a15 :: a16 :: a17 :: a18 :: a19 :: a20 :: a21 :: a22 :: a23 :: a24 :: a25 :: a26 :: a27 :: a28 :: a29 :: a30 :: a31 :: a32 :: a33 :: a34 :: a35 :: a36 :: [], _ => kernel_rfl
  | a0 :: a1 :: a2 :: a3 :: a4 :: a5 :: a6 :: a7 :: a8 :: a9 :: a10 :: a11 :: a12 :: a13 :: a14 :: a15 :: a16 :: a17 :: a18 :: a19 :: a20 :: a21 :: a22 :: a23 :: a24 :: a25 :: a26 :: a27 :: a28 :: a29 :: a30 :: a31 :: a32 :: a33 :: a34 :: a35 :: a36 :: a37 :: [], _ => kernel_rfl
  | a0 :: a1 :: a2 :: a3 :: a4 :: a5 :: a6 :: a7 :: a8 :: a9 :: a10 :: a11 :: a12 :: a13 :: a14 :: a15 :: a16 :: a17 :: a18 :: a19 :: a20 :: a21 :: a22 :: a23 :: a24 :: a25 :: a26 :: a27 :: a28 :: a29 :: a30 :: a31 :: a32 :: a33 :: a34 :: a35 :: a36 :: a37 :: a38 :: [], _ => kernel_rfl
  | a0 :: a1 :: a2 :: a3 :: a4 :: a5 :: a6 :: a7 :: a8 :: a9 :: a10 :: a11 :: a12 :: a13 :: a14 :: a15 :: a16 :: a17 :: a18 :: a19 :: a20 :: a21 :: a22 :: a23 :: a24 :: a25 :: a26 :: a27 :: a28 :: a29 :: a30 :: a31 :: a32 :: a33 :: a34 :: a35 :: a36 :: a37 :: a38 :: a39 :: [], _ => kernel_rfl
  | a0 :: a1 :: a2 :: a3 :: a4 :: a5 :: a6 :: a7 :: a8 :: a9 :: a10 :: a11 :: a12 :: a13 :: a14 :: a15 :: a16 :: a17 :: a18 :: a19 :: a20 :: a21 :: a22 :: a23 :: a24 :: a25 :: a26 :: a27 :: a28 :: a29 :: a30 :: a31 :: a32 :: a33 :: a34 :: a35 :: a36 :: a37 :: a38 :: a39 :: a40 :: [], _ => kernel_rfl
  | a0 :: a1 :: a2 :: a3 :: a4 :: a5 :: a6 :: a7 :: a8 :: a9 :: a10 :: a11 :: a12 :: a13 :: a14 :: a15 :: a16 :: a17 :: a18 :: a19 :: a20 :: a21 :: a22 :: a23 :: a24 :: a25 :: a26 :: a27 :: a28 :: a29 :: a30 :: a31 :: a32 :: a33 :: a34 :: a35 :: a36 :: a37 :: a38 :: a39 :: a40 :: a41 :: [], _ => kernel_rfl
  | a0 :: a1 :: a2 :: a3 :: a4 :: a5 :: a6 :: a7 :: a8 :: a9 :: a10 :: a11 :: a12 :: a13 :: a14 :: a15 :: a16 :: a17 :: a18 :: a19 :: a20 :: a21 :: a22 :: a23 :: a24 :: a25 :: a26 :: a27 :: a28 :: a29 :: a30 :: a31 :: a32 :: a33 :: a34 :: a35 :: a36 :: a37 :: a38 :: a39 :: a40 :: a41 :: a42 :: [], _ => kernel_rfl
  | a0 :: a1 :: a2 :: a3 :: a4 :: a5 :: a6 :: a7 :: a8 :: a9 :: a10 :: a11 :: a12 :: a13 :: a14 :: a15 :: a16 :: a17 :: a18 :: a19 :: a20 :: a21 :: a22 :: a23 :: a24 :: a25 :: a26 :: a27 :: a28 :: a29 :: a30 :: a31 :: a32 :: a33 :: a34 :: a35 :: a36 :: a37 :: a38 :: a39 :: a40 :: a41 :: a42 :: a43 :: [], _ => kernel_rfl
  | a0 :: a1 :: a2 :: a3 :: a4 :: a5 :: a6 :: a7 :: a8 :: a9 :: a10 :: a11 :: a12 :: a13 :: a14 :: a15 :: a16 :: a17 :: a18 :: a19 :: a20 :: a21 :: a22 :: a23 :: a24 :: a25 :: a26 :: a27 :: a28 :: a29 :: a30 :: a31 :: a32 :: a33 :: a34 :: a35 :: a36 :: a37 :: a38 :: a39 :: a40 :: a41 :: a42 :: a43 :: a44 :: [], _ => kernel_rfl
  | a0 :: a1 :: a2 :: a3 :: a4 :: a5 :: a6 :: a7 :: a8 :: a9 :: a10 :: a11 :: a12 :: a13 :: a14 :: a15 :: a16 :: a17 :: a18 :: a19 :: a20 :: a21 :: a22 :: a23 :: a24 :: a25 :: a26 :: a27 :: a28 :: a29 :: a30 :: a31 :: a32 :: a33 :: a34 :: a35 :: a36 :: a37 :: a38 :: a39 :: a40 :: a41 :: a42 :: a43 :: a44 :: a45 :: [], _ => kernel_rfl
  | a0 :: a1 :: a2 :: a3 :: a4 :: a5 :: a6 :: a7 :: a8 :: a9 :: a10 :: a11 :: a12 :: a13 :: a14 :: a15 :: a16 :: a17 :: a18 :: a19 :: a20 :: a21 :: a22 :: a23 :: a24 :: a25 :: a26 :: a27 :: a28 :: a29 :: a30 :: a31 :: a32 :: a33 :: a34 :: a35 :: a36 :: a37 :: a38 :: a39 :: a40 :: a41 :: a42 :: a43 :: a44 :: a45 :: a46 :: [], _ => kernel_rfl
  | a0 :: a1 :: a2 :: a3 :: a4 :: a5 :: a6 :: a7 :: a8 :: a9 :: a10 :: a11 :: a12 :: a13 :: a14 :: a15 :: a16 :: a17 :: a18 :: a19 :: a20 :: a21 :: a22 :: a23 :: a24 :: a25 :: a26 :: a27 :: a28 :: a29 :: a30 :: a31 :: a32 :: a33 :: a34 :: a35 :: a36 :: a37 :: a38 :: a39 :: a40 :: a41 :: a42 :: a43 :: a44 :: a45 :: a46 :: a47 :: [], _ => kernel_rfl
  | a0 :: a1 :: a2 :: a3 :: a4 :: a5 :: a6 :: a7 :: a8 :: a9 :: a10 :: a11 :: a12 :: a13 :: a14 :: a15 :: a16 :: a17 :: a18 :: a19 :: a20 :: a21 :: a22 :: a23 :: a24 :: a25 :: a26 :: a27 :: a28 :: a29 :: a30 :: a31 :: a32 :: a33 :: a34 :: a35 :: a36 :: a37 :: a38 :: a39 :: a40 :: a41 :: a42 :: a43 :: a44 :: a45 :: a46 :: a47 :: a48 :: [], _ => kernel_rfl
  | a0 :: a1 :: a2 :: a3 :: a4 :: a5 :: a6 :: a7 :: a8 :: a9 :: a10 :: a11 :: a12 :: a13 :: a14 :: a15 :: a16 :: a17 :: a18 :: a19 :: a20 :: a21 :: a22 :: a23 :: a24 :: a25 :: a26 :: a27 :: a28 :: a29 :: a30 :: a31 :: a32 :: a33 :: a34 :: a35 :: a36 :: a37 :: a38 :: a39 :: a40 :: a41 :: a42 :: a43 :: a44 :: a45 :: a46 :: a47 :: a48 :: a49 :: [], _ => kernel_rfl
  | a0 :: a1 :: a2 :: a3 :: a4 :: a5 :: a6 :: a7 :: a8 :: a9 :: a10 :: a11 :: a12 :: a13 :: a14 :: a15 :: a16 :: a17 :: a18 :: a19 :: a20 :: a21 :: a22 :: a23 :: a24 :: a25 :: a26 :: a27 :: a28 :: a29 :: a30 :: a31 :: a32 :: a33 :: a34 :: a35 :: a36 :: a37 :: a38 :: a39 :: a40 :: a41 :: a42 :: a43 :: a44 :: a45 :: a46 :: a47 :: a48 :: a49 :: a50 :: [], _ => kernel_rfl
  | a0 :: a1 :: a2 :: a3 :: a4 :: a5 :: a6 :: a7 :: a8 :: a9 :: a10 :: a11 :: a12 :: a13 :: a14 :: a15 :: a16 :: a17 :: a18 :: a19 :: a20 :: a21 :: a22 :: a23 :: a24 :: a25 :: a26 :: a27 :: a28 :: a29 :: a30 :: a31 :: a32 :: a33 :: a34 :: a35 :: a36 :: a37 :: a38 :: a39 :: a40 :: a41 :: a42 :: a43 :: a44 :: a45 :: a46 :: a47 :: a48 :: a49 :: a50 :: a51 :: [], _ => kernel_rfl
  | a0 :: a1 :: a2 :: a3 :: a4 :: a5 :: a6 :: a7 :: a8 :: a9 :: a10 :: a11 :: a12 :: a13 :: a14 :: a15 :: a16 :: a17 :: a18 :: a19 :: a20 :: a21 :: a22 :: a23 :: a24 :: a25 :: a26 :: a27 :: a28 :: a29 :: a30 :: a31 :: a32 :: a33 :: a34 :: a35 :: a36 :: a37 :: a38 :: a39 :: a40 :: a41 :: a42 :: a43 :: a44 :: a45 :: a46 :: a47 :: a48 :: a49 :: a50 :: a51 :: a52 :: [], _ => kernel_rfl
  | a0 :: a1 :: a2 :: a3 :: a4 :: a5 :: a6 :: a7 :: a8 :: a9 :: a10 :: a11 :: a12 :: a13 :: a14 :: a15 :: a16 :: a17 :: a18 :: a19 :: a20 :: a21 :: a22 :: a23 :: a24 :: a25 :: a26 :: a27 :: a28 :: a29 :: a30 :: a31 :: a32 :: a33 :: a34 :: a35 :: a36 :: a37 :: a38 :: a39 :: a40 :: a41 :: a42 :: a43 :: a44 :: a45 :: a46 :: a47 :: a48 :: a49 :: a50 :: a51 :: a52 :: a53 :: [], _ => kernel_rfl
  | a0 :: a1 :: a2 :: a3 :: a4 :: a5 :: a6 :: a7 :: a8 :: a9 :: a10 :: a11 :: a12 :: a13 :: a14 :: a15 :: a16 :: a17 :: a18 :: a19 :: a20 :: a21 :: a22 :: a23 :: a24 :: a25 :: a26 :: a27 :: a28 :: a29 :: a30 :: a31 :: a32 :: a33 :: a34 :: a35 :: a36 :: a37 :: a38 :: a39 :: a40 :: a41 :: a42 :: a43 :: a44 :: a45 :: a46 :: a47 :: a48 :: a49 :: a50 :: a51 :: a52 :: a53 :: a54 :: [], _ => kernel_rfl
  | a0 :: a1 :: a2 :: a3 :: a4 :: a5 :: a6 :: a7 :: a8 :: a9 :: a10 :: a11 :: a12 :: a13 :: a14 :: a15 :: a16 :: a17 :: a18 :: a19 :: a20 :: a21 :: a22 :: a23 :: a24 :: a25 :: a26 :: a27 :: a28 :: a29 :: a30 :: a31 :: a32 :: a33 :: a34 :: a35 :: a36 :: a37 :: a38 :: a39 :: a40 :: a41 :: a42 :: a43 :: a44 :: a45 :: a46 :: a47 :: a48 :: a49 :: a50 :: a51 :: a52 :: a53 :: a54 :: a55 :: [], _ => kernel_rfl
  | a0 :: a1 :: a2 :: a3 :: a4 :: a5 :: a6 :: a7 :: a8 :: a9 :: a10 :: a11 :: a12 :: a13 :: a14 :: a15 :: a16 :: a17 :: a18 :: a19 :: a20 :: a21 :: a22 :: a23 :: a24 :: a25 :: a26 :: a27 :: a28 :: a29 :: a30 :: a31 :: a32 :: a33 :: a34 :: a35 :: a36 :: a37 :: a38 :: a39 :: a40 :: a41 :: a42 :: a43 :: a44 :: a45 :: a46 :: a47 :: a48 :: a49 :: a50 :: a51 :: a52 :: a53 :: a54 :: a55 :: a56 :: [], _ => kernel_rfl
  | a0 :: a1 :: a2 :: a3 :: a4 :: a5 :: a6 :: a7 :: a8 :: a9 :: a10 :: a11 :: a12 :: a13 :: a14 :: a15 :: a16 :: a17 :: a18 :: a19 :: a20 :: a21 :: a22 :: a23 :: a24 :: a25 :: a26 :: a27 :: a28 :: a29 :: a30 :: a31 :: a32 :: a33 :: a34 :: a35 :: a36 :: a37 :: a38 :: a39 :: a40 :: a41 :: a42 :: a43 :: a44 :: a45 :: a46 :: a47 :: a48 :: a49 :: a50 :: a51 :: a52 :: a53 :: a54 :: a55 :: a56 :: a57 :: [], _ => kernel_rfl
  | a0 :: a1 :: a2 :: a3 :: a4 :: a5 :: a6 :: a7 :: a8 :: a9 :: a10 :: a11 :: a12 :: a13 :: a14 :: a15 :: a16 :: a17 :: a18 :: a19 :: a20 :: a21 :: a22 :: a23 :: a24 :: a25 :: a26 :: a27 :: a28 :: a29 :: a30 :: a31 :: a32 :: a33 :: a34 :: a35 :: a36 :: a37 :: a38 :: a39 :: a40 :: a41 :: a42 :: a43 :: a44 :: a45 :: a46 :: a47 :: a48 :: a49 :: a50 :: a51 :: a52 :: a53 :: a54 :: a55 :: a56 :: a57 :: a58 :: [], _ => kernel_rfl
  | a0 :: a1 :: a2 :: a3 :: a4 :: a5 :: a6 :: a7 :: a8 :: a9 :: a10 :: a11 :: a12 :: a13 :: a14 :: a15 :: a16 :: a17 :: a18 :: a19 :: a20 :: a21 :: a22 :: a23 :: a24 :: a25 :: a26 :: a27 :: a28 :: a29 :: a30 :: a31 :: a32 :: a33 :: a34 :: a35 :: a36 :: a37 :: a38 :: a39 :: a40 :: a41 :: a42 :: a43 :: a44 :: a45 :: a46 :: a47 :: a48 :: a49 :: a50 :: a51 :: a52 :: a53 :: a54 :: a55 :: a56 :: a57 :: a58 :: a59 :: [], _ => kernel_rfl
  | a0 :: a1 :: a2 :: a3 :: a4 :: a5 :: a6 :: a7 :: a8 :: a9 :: a10 :: a11 :: a12 :: a13 :: a14 :: a15 :: a16 :: a17 :: a18 :: a19 :: a20 :: a21 :: a22 :: a23 :: a24 :: a25 :: a26 :: a27 :: a28 :: a29 :: a30 :: a31 :: a32 :: a33 :: a34 :: a35 :: a36 :: a37 :: a38 :: a39 :: a40 :: a41 :: a42 :: a43 :: a44 :: a45 :: a46 :: a47 :: a48 :: a49 :: a50 :: a51 :: a52 :: a53 :: a54 :: a55 :: a56 :: a57 :: a58 :: a59 :: a60 :: [], _ => kernel_rfl
  | a0 :: a1 :: a2 :: a3 :: a4 :: a5 :: a6 :: a7 :: a8 :: a9 :: a10 :: a11 :: a12 :: a13 :: a14 :: a15 :: a16 :: a17 :: a18 :: a19 :: a20 :: a21 :: a22 :: a23 :: a24 :: a25 :: a26 :: a27 :: a28 :: a29 :: a30 :: a31 :: a32 :: a33 :: a34 :: a35 :: a36 :: a37 :: a38 :: a39 :: a40 :: a41 :: a42 :: a43 :: a44 :: a45 :: a46 :: a47 :: a48 :: a49 :: a50 :: a51 :: a52 :: a53 :: a54 :: a55 :: a56 :: a57 :: a58 :: a59 :: a60 :: a61 :: [], _ => kernel_rfl
  | a0 :: a1 :: a2 :: a3 :: a4 :: a5 :: a6 :: a7 :: a8 :: a9 :: a10 :: a11 :: a12 :: a13 :: a14 :: a15 :: a16 :: a17 :: a18 :: a19 :: a20 :: a21 :: a22 :: a23 :: a24 :: a25 :: a26 :: a27 :: a28 :: a29 :: a30 :: a31 :: a32 :: a33 :: a34 :: a35 :: a36 :: a37 :: a38 :: a39 :: a40 :: a41 :: a42 :: a43 :: a44 :: a45 :: a46 :: a47 :: a48 :: a49 :: a50 :: a51 :: a52 :: a53 :: a54 :: a55 :: a56 :: a57 :: a58 :: a59 :: a60 :: a61 :: a62 :: [], _ => kernel_rfl
  | a0 :: a1 :: a2 :: a3 :: a4 :: a5 :: a6 :: a7 :: a8 :: a9 :: a10 :: a11 :: a12 :: a13 :: a14 :: a15 :: a16 :: a17 :: a18 :: a19 :: a20 :: a21 :: a22 :: a23 :: a24 :: a25 :: a26 :: a27 :: a28 :: a29 :: a30 :: a31 :: a32 :: a33 :: a34 :: a35 :: a36 :: a37 :: a38 :: a39 :: a40 :: a41 :: a42 :: a43 :: a44 :: a45 :: a46 :: a47 :: a48 :: a49 :: a50 :: a51 :: a52 :: a53 :: a54 :: a55 :: a56 :: a57 :: a58 :: a59 :: a60 :: a61 :: a62 :: a63 :: [], _ => kernel_rfl
  | a0 :: a1 :: a2 :: a3 :: a4 :: a5 :: a6 :: a7 :: a8 :: a9 :: a10 :: a11 :: a12 :: a13 :: a14 :: a15 :: a16 :: a17 :: a18 :: a19 :: a20 :: a21 :: a22 :: a23 :: a24 :: a25 :: a26 :: a27 :: a28 :: a29 :: a30 :: a31 :: a32 :: a33 :: a34 :: a35 :: a36 :: a37 :: a38 :: a39 :: a40 :: a41 :: a42 :: a43 :: a44 :: a45 :: a46 :: a47 :: a48 :: a49 :: a50 :: a51 :: a52 :: a53 :: a54 :: a55 :: a56 :: a57 :: a58 :: a59 :: a60 :: a61 :: a62 :: a63 :: a64 :: [], _ => kernel_rfl
  | a0 :: a1 :: a2 :: a3 :: a4 :: a5 :: a6 :: a7 :: a8 :: a9 :: a10 :: a11 :: a12 :: a13 :: a14 :: a15 :: a16 :: a17 :: a18 :: a19 :: a20 :: a21 :: a22 :: a23 :: a24 :: a25 :: a26 :: a27 :: a28 :: a29 :: a30 :: a31 :: a32 :: a33 :: a34 :: a35 :: a36 :: a37 :: a38 :: a39 :: a40 :: a41 :: a42 :: a43 :: a44 :: a45 :: a46 :: a47 :: a48 :: a49 :: a50 :: a51 :: a52 :: a53 :: a54 :: a55 :: a56 :: a57 :: a58 :: a59 :: a60 :: a61 :: a62 :: a63 :: a64 :: a65 :: [], _ => kernel_rfl
  | a0 :: a1 :: a2 :: a3 :: a4 :: a5 :: a6 :: a7 :: a8 :: a9 :: a10 :: a11 :: a12 :: a13 :: a14 :: a15 :: a16 :: a17 :: a18 :: a19 :: a20 :: a21 :: a22 :: a23 :: a24 :: a25 :: a26 :: a27 :: a28 :: a29 :: a30 :: a31 :: a32 :: a33 :: a34 :: a35 :: a36 :: a37 :: a38 :: a39 :: a40 :: a41 :: a42 :: a43 :: a44 :: a45 :: a46 :: a47 :: a48 :: a49 :: a50 :: a51 :: a52 :: a53 :: a54 :: a55 :: a56 :: a57 :: a58 :: a59 :: a60 :: a61 :: a62 :: a63 :: a64 :: a65 :: a66 :: [], _ => kernel_rfl
  | a0 :: a1 :: a2 :: a3 :: a4 :: a5 :: a6 :: a7 :: a8 :: a9 :: a10 :: a11 :: a12 :: a13 :: a14 :: a15 :: a16 :: a17 :: a18 :: a19 :: a20 :: a21 :: a22 :: a23 :: a24 :: a25 :: a26 :: a27 :: a28 :: a29 :: a30 :: a31 :: a32 :: a33 :: a34 :: a35 :: a36 :: a37 :: a38 :: a39 :: a40 :: a41 :: a42 :: a43 :: a44 :: a45 :: a46 :: a47 :: a48 :: a49 :: a50 :: a51 :: a52 :: a53 :: a54 :: a55 :: a56 :: a57 :: a58 :: a59 :: a60 :: a61 :: a62 :: a63 :: a64 :: a65 :: a66 :: a67 :: [], _ => kernel_rfl
  | a0 :: a1 :: a2 :: a3 :: a4 :: a5 :: a6 :: a7 :: a8 :: a9 :: a10 :: a11 :: a12 :: a13 :: a14 :: a15 :: a16 :: a17 :: a18 :: a19 :: a20 :: a21 :: a22 :: a23 :: a24 :: a25 :: a26 :: a27 :: a28 :: a29 :: a30 :: a31 :: a32 :: a33 :: a34 :: a35 :: a36 :: a37 :: a38 :: a39 :: a40 :: a41 :: a42 :: a43 :: a44 :: a45 :: a46 :: a47 :: a48 :: a49 :: a50 :: a51 :: a52 :: a53 :: a54 :: a55 :: a56 :: a57 :: a58 :: a59 :: a60 :: a61 :: a62 :: a63 :: a64 :: a65 :: a66 :: a67 :: a68 :: [], _ => kernel_rfl
  | a0 :: a1 :: a2 :: a3 :: a4 :: a5 :: a6 :: a7 :: a8 :: a9 :: a10 :: a11 :: a12 :: a13 :: a14 :: a15 :: a16 :: a17 :: a18 :: a19 :: a20 :: a21 :: a22 :: a23 :: a24 :: a25 :: a26 :: a27 :: a28 :: a29 :: a30 :: a31 :: a32 :: a33 :: a34 :: a35 :: a36 :: a37 :: a38 :: a39 :: a40 :: a41 :: a42 :: a43 :: a44 :: a45 :: a46 :: a47 :: a48 :: a49 :: a50 :: a51 :: a52 :: a53 :: a54 :: a55 :: a56 :: a57 :: a58 :: a59 :: a60 :: a61 :: a62 :: a63 :: a64 :: a65 :: a66 :: a67 :: a68 :: a69 :: [], _ => kernel_rfl
  | a0 :: a1 :: a2 :: a3 :: a4 :: a5 :: a6 :: a7 :: a8 :: a9 :: a10 :: a11 :: a12 :: a13 :: a14 :: a15 :: a16 :: a17 :: a18 :: a19 :: a20 :: a21 :: a22 :: a23 :: a24 :: a25 :: a26 :: a27 :: a28 :: a29 :: a30 :: a31 :: a32 :: a33 :: a34 :: a35 :: a36 :: a37 :: a38 :: a39 :: a40 :: a41 :: a42 :: a43 :: a44 :: a45 :: a46 :: a47 :: a48 :: a49 :: a50 :: a51 :: a52 :: a53 :: a54 :: a55 :: a56 :: a57 :: a58 :: a59 :: a60 :: a61 :: a62 :: a63 :: a64 :: a65 :: a66 :: a67 :: a68 :: a69 :: a70 :: [], _ => kernel_rfl
  | a0 :: a1 :: a2 :: a3 :: a4 :: a5 :: a6 :: a7 :: a8 :: a9 :: a10 :: a11 :: a12 :: a13 :: a14 :: a15 :: a16 :: a17 :: a18 :: a19 :: a20 :: a21 :: a22 :: a23 :: a24 :: a25 :: a26 :: a27 :: a28 :: a29 :: a30 :: a31 :: a32 :: a33 :: a34 :: a35 :: a36 :: a37 :: a38 :: a39 :: a40 :: a41 :: a42 :: a43 :: a44 :: a45 :: a46 :: a47 :: a48 :: a49 :: a50 :: a51 :: a52 :: a53 :: a54 :: a55 :: a56 :: a57 :: a58 :: a59 :: a60 :: a61 :: a62 :: a63 :: a64 :: a65 :: a66 :: a67 :: a68 :: a69 :: a70 :: a71 :: [], _ => kernel_rfl
  | _ :: _ :: _ :: _ :: _ :: _ :: _ :: _ :: _ :: _ :: _ :: _ :: _ :: _ :: _ :: _ :: _ :: _ :: _ :: _ :: _ :: _ :: _ :: _ :: _ :: _ :: _ :: _ :: _ :: _ :: _ :: _ :: _ :: _ :: _ :: _ :: _ :: _ :: _ :: _ :: _ :: _ :: _ :: _ :: _ :: _ :: _ :: _ :: _ :: _ :: _ :: _ :: _ :: _ :: _ :: _ :: _ :: _ :: _ :: _ :: _ :: _ :: _ :: _ :: _ :: _ :: _ :: _ :: _ :: _ :: _ :: _ :: _ :: _, h => simp only [List.length_cons] at h; omega
end
end ZL
namespace ZL
open PySem
def pushIts : Heap → List Addr → Heap
  | h, [] => h
  | h, l :: ls => pushIts (h.push { cls := .type "list_iterator", data := .fields #[.ref l, .int 0 0] }) ls
theorem push_size : ∀ (ls : List Addr) (h : Heap), (pushIts h ls).objs.size = h.objs.size + ls.length
  | [], h => rfl
  | l :: ls, h => by rw [pushIts, push_size ls, Heap.size_push, List.length_cons]; omega
theorem push_old : ∀ (ls : List Addr) (h : Heap) {c : Addr} {o : Obj}, h.get? c = some o → (pushIts h ls).get? c = some o
  | [], h, _, _, e => e
  | l :: ls, h, c, o, e => push_old ls _ (Heap.get?_push_of_some _ e)
theorem push_it : ∀ (ls : List Addr) (h : Heap) (k : Nat) (row : Addr), ls[k]? = some row → (pushIts h ls).IsListIter (h.objs.size + k) row 0
  | [], h, k, row, e => by simp at e
  | l :: ls, h, 0, row, e => by
    simp at e
    subst e
    exact ⟨_, push_old ls _ (Heap.get?_push_size _ rfl), rfl, rfl⟩
  | l :: ls, h, k + 1, row, e => by
    have := push_it ls (h.push { cls := .type "list_iterator", data := .fields #[.ref l, .int 0 0] }) k row (by simpa using e)
    rw [Heap.size_push] at this
    rw [show h.objs.size + (k + 1) = h.objs.size + 1 + k by omega]
    exact this
theorem push_snoc : ∀ (ls : List Addr) (h : Heap) (l : Addr), pushIts h (ls ++ [l]) = (pushIts h ls).push { cls := .type "list_iterator", data := .fields #[.ref l, .int 0 0] }
  | [], h, l => rfl
  | x :: ls, h, l => by rw [List.cons_append, pushIts, push_snoc ls, pushIts]
def Made (h : Heap) (rows : List Addr) (h' : Heap) : Prop := St0 h' h.objs.size rows .none false (fun _ => 0) ∧ ∀ c o, h.get? c = some o → h'.get? c = some o
set_option maxHeartbeats 4000000 in
theorem meets_new (rows : List Addr) (hn : rows.length ≤ 72) :
    Meets (Builtin.«zip.__new__» ⟨.type "zip" :: rows.map Value.ref, []⟩) (fun _ R s => (∀ row ∈ rows, ∃ items, s.heap.IsList row items) ∧
      ∀ h', Made s.heap rows h' → R (.ok (.ret (.ref (s.heap.objs.size + rows.length + 2)))) { s with heap := h' }) :=
  .of_wp fun prog w A R s h => by
    obtain ⟨hp, g, d, tk, os⟩ := s
    obtain ⟨ht, h⟩ := h
    have hsub := sub_zip
    wp_walk
    show wpAny (model prog w) A.in1 (forIn (rows.map Value.ref) (#[] : Array Value) (fun x its => holding its.toList (pyIter x) >>= fun v => pure (ForInStep.yield (its.push v)))) _ _ _
    refine wpAny_mono (wpAny_forIn_list _ (fun rest b s' => ∃ k, k ≤ rows.length ∧ rest = (rows.map Value.ref).drop k ∧ b = (itsOf hp.objs.size k).toArray ∧ s' = ⟨pushIts hp (rows.take k), g, d, tk, os⟩)
      (fun b s' => b = (itsOf hp.objs.size rows.length).toArray ∧ s' = ⟨pushIts hp rows, g, d, tk, os⟩) ?turn ?fin _ _ ?start) ?after (fun _ _ x => x)
    case start => exact ⟨0, Nat.zero_le _, rfl, rfl, by rw [List.take_zero]; rfl⟩
    case fin =>
      rintro b s' ⟨k, hk, e, rfl, rfl⟩
      have hk2 : rows.length ≤ k := by
        have := congrArg List.length e
        rw [List.length_drop, List.length_map] at this
        simp at this
        omega
      obtain rfl : k = rows.length := by omega
      exact ⟨rfl, by rw [List.take_length]⟩
    case turn =>
      rintro x rest b s' ⟨k, hk, e, rfl, rfl⟩
      obtain ⟨e1, e2⟩ := cons_drop e
      rw [List.getElem?_map] at e1
      obtain ⟨row, hrow, rfl⟩ := Option.map_eq_some_iff.mp e1
      obtain ⟨items, hI⟩ := ht row (List.mem_of_getElem? hrow)
      have hk2 := (List.getElem?_eq_some_iff.mp hrow).1
      have hI2 : (pushIts hp (rows.take k)).IsList row items := by
        obtain ⟨o, ho, r⟩ := hI
        exact ⟨o, push_old _ _ ho, r⟩
      refine wpAny_bind (wpAny_holding (wpAny_pyIter_list (s := ⟨pushIts hp (rows.take k), g, d, tk, os⟩) hI2 (wpAny_pure ⟨k + 1, by omega, e2, ?_, ?_⟩)))
      · show (itsOf hp.objs.size k).toArray.push (.ref (pushIts hp (rows.take k)).objs.size) = _
        rw [push_size, List.length_take, Nat.min_eq_left (by omega)]
        unfold itsOf
        rw [List.range_succ, List.map_append]
        simp
      · rw [List.take_add_one, hrow, Option.toList_some, push_snoc]
    case after =>
      rintro b s' ⟨rfl, rfl⟩
      have hz : ∀ l : List Value, l.length ≤ 72 → l.length ≤ sizeLine := fun l h => Nat.le_trans h (by decide)
      refine wpAny_pure ?_
      refine wpAny_bind (wpAny_newTuple (s := ⟨pushIts hp rows, g, d, tk, os⟩) ?_ (hz _ (by rw [List.toList_toArray, its_len]; exact hn)))
      refine wpAny_bind (wpAny_newTuple (s := ⟨(pushIts hp rows).push _, g, d, tk, os⟩) ?_ (hz _ (by rw [List.length_map, List.toList_toArray, its_len]; exact hn)))
      refine wpAny_bind (m := Builtin.SmallTypes.newRecord _ _) ?_
      unfold Builtin.SmallTypes.newRecord
      refine wpAny_newObj_type (s := ⟨((pushIts hp rows).push _).push _, g, d, tk, os⟩) ?_ (by show 5 ≤ sizeLine + 2; decide)
      have e1 : (pushIts hp rows).objs.size = hp.objs.size + rows.length := push_size rows hp
      have up : ∀ c o, hp.get? c = some o → (((pushIts hp rows).push { cls := .type "tuple", data := .seq (itsOf hp.objs.size rows.length).toArray.toList.toArray }).push { cls := .type "tuple", data := .seq ((itsOf hp.objs.size rows.length).toArray.toList.map fun _ => Value.none).toArray }).get? c = some o :=
        fun c o e => Heap.get?_push_of_some _ (Heap.get?_push_of_some _ (push_old _ _ e))
      have upI : ∀ c o, (pushIts hp rows).get? c = some o → (((pushIts hp rows).push { cls := .type "tuple", data := .seq (itsOf hp.objs.size rows.length).toArray.toList.toArray }).push { cls := .type "tuple", data := .seq ((itsOf hp.objs.size rows.length).toArray.toList.map fun _ => Value.none).toArray }).get? c = some o :=
        fun c o e => Heap.get?_push_of_some _ (Heap.get?_push_of_some _ e)
      dsimp only [Builtin.SmallTypes.ownedTupleFields, List.cons_append, List.nil_append]
      rw [Heap.size_push, Heap.size_push, e1]
      refine wpAny_pure ⟨_, rfl, ?_⟩
      have e2 : hp.objs.size + rows.length + 1 + 1 = hp.objs.size + rows.length + 2 := rfl
      rw [e2]
      refine h _ ⟨⟨?_, ?_, ⟨(itsOf hp.objs.size rows.length).map fun _ => Value.none, by rw [List.length_map, its_len], ?_⟩, fun k row hk => ?_⟩, fun c o e => Heap.get?_push_of_some _ (up c o e)⟩
      · show Heap.get? _ _ = _
        have e3 : (((pushIts hp rows).push { cls := .type "tuple", data := .seq (itsOf hp.objs.size rows.length).toArray.toList.toArray }).push { cls := .type "tuple", data := .seq ((itsOf hp.objs.size rows.length).toArray.toList.map fun _ => Value.none).toArray }).objs.size = hp.objs.size + rows.length + 2 := by rw [Heap.size_push, Heap.size_push, e1]
        rw [← e3]
        exact Heap.get?_push_size _ rfl
      · show Heap.get? _ _ = _
        refine Heap.get?_push_of_some _ (Heap.get?_push_of_some _ ?_)
        rw [← e1]
        exact Heap.get?_push_size _ rfl
      · show Heap.get? _ _ = _
        refine Heap.get?_push_of_some _ ?_
        have e4 : ((pushIts hp rows).push { cls := .type "tuple", data := .seq (itsOf hp.objs.size rows.length).toArray.toList.toArray }).objs.size = hp.objs.size + rows.length + 1 := by rw [Heap.size_push, e1]
        rw [← e4]
        exact Heap.get?_push_size _ rfl
      · obtain ⟨o, ho, r⟩ := push_it rows hp k row hk
        exact ⟨o, Heap.get?_push_of_some _ (upI _ _ ho), r⟩
section
variable {prog : Program} {w : World} {A : Around} {E : Value → Shared → Prop} {s : Shared}
theorem call_zipN {rows : List Addr} {Q : Value → Shared → Prop} (hn : rows.length ≤ 72) (ht : ∀ row ∈ rows, ∃ items, s.heap.IsList row items)
    (h : ∀ h', Made s.heap rows h' → Q (.ref (s.heap.objs.size + rows.length + 2)) { s with heap := h' }) : wpAny (model prog w) A (call (.type "zip") (rows.map Value.ref)) Q E s := by
  refine callType_new F.called_zip (by decide) (typeCall _ (by rw [List.length_map]; exact hn)) (newCall _ (by rw [List.length_map]; exact hn)) (fun obj => initArgs obj _ (by rw [List.length_map]; exact hn)) F.entry_zip_new
    (meets_new rows hn) ⟨ht, fun h' m => ?_⟩
  exact ⟨⟨_, m.1.zip, rfl⟩, h h' m⟩
end
end ZL
set_option maxHeartbeats 1000000
/-! zip(*rows) over tuples, a name as the target -/
namespace ZS
open PySem
abbrev ZAt (h : Heap) (z TI TO : Addr) (f0 : Value) (f1 : Bool) : Prop :=
  h.get? z = some { cls := .type "zip", dict := none, data := .fields #[f0, .bool f1, .bool false, .ref TI, .ref TO], slots := #[] }
abbrev TAt (h : Heap) (T : Addr) (xs : List Value) : Prop := h.get? T = some { cls := .type "tuple", data := .seq xs.toArray }
def itsOf (b n : Nat) : List Value := (List.range n).map fun k => .ref (b + k)
theorem its_len (b n : Nat) : (itsOf b n).length = n := by simp [itsOf]
theorem its_at {b n k : Nat} (h : k < n) : (itsOf b n)[k]? = some (.ref (b + k)) := by simp [itsOf, h]
/-- where the zip's own objects stand: the iterators from b on, then the tuple of them, the tuple it keeps, the zip -/
structure St0 (h : Heap) (b : Nat) (rows : List Addr) (f0 : Value) (f1 : Bool) (at_ : Nat → Nat) : Prop where
  zip : ZAt h (b + rows.length + 2) (b + rows.length) (b + rows.length + 1) f0 f1
  ti : TAt h (b + rows.length) (itsOf b rows.length)
  to : ∃ kept : List Value, kept.length = rows.length ∧ TAt h (b + rows.length + 1) kept
  it : ∀ (k : Nat) (row : Addr), rows[k]? = some row → h.IsTupleIter (b + k) row (at_ k)
/-- what is not the zip's own stays -/
def Off (b n : Nat) (h h' : Heap) : Prop := ∀ c o, (c < b ∨ b + n + 2 < c) → h.get? c = some o → h'.get? c = some o
theorem Off.refl (b n : Nat) (h : Heap) : Off b n h h := fun _ _ _ e => e
theorem Off.trans {b n : Nat} {h h1 h2 : Heap} (x : Off b n h h1) (y : Off b n h1 h2) : Off b n h h2 := fun c o r e => y c o r (x c o r e)
theorem Off.but {b n c0 : Nat} {h h' : Heap} (e : Heap.SameBut c0 h h') (hc : b ≤ c0 ∧ c0 ≤ b + n + 2) : Off b n h h' := fun c o r x => by
  rw [e.2 c (fun z => by subst z; omega)]; exact x
section
variable {prog : Program} {w : World} {A : Around} {E : Value → Shared → Prop} {s : Shared}
theorem alive {a : Addr} {Q : Option Obj → Shared → Prop} (h : Q (s.heap.get? a) s) : wpAny (model prog w) A (loadIfAlive a) Q E s := by
  intro Γ p hΓ
  unfold loadIfAlive
  rw [Sem.wp_loadIfAlive]
  exact wpAny_pure h Γ p hΓ
theorem nextOf_item {it l : Addr} {i : Nat} {items} {x : Value} {Q : Value → Shared → Prop} (hit : s.heap.IsTupleIter it l i) (hl : s.heap.IsTuple l items) (hx : items[i]? = some x)
    (hQ : ∀ h', h'.IsTupleIter it l (i + 1) → Heap.SameBut it s.heap h' → Q x { s with heap := h' }) : wpAny (model prog w) A (Builtin.SmallTypes.nextOf (.ref it)) Q E s := RZ.nextOf_tuple_item hit hl hx hQ
/-- the draws, one iterator after another, into the tuple that the zip keeps -/
structure Half (s : Shared) (b : Nat) (rows : List Addr) (i : Nat) (col : List Value) (f0 : Value) (f1 : Bool) (k : Nat) (s' : Shared) : Prop where
  ex : ∃ h', s' = { s with heap := h' } ∧ h'.objs.size = s.heap.objs.size ∧ Off b rows.length s.heap h' ∧ ZAt h' (b + rows.length + 2) (b + rows.length) (b + rows.length + 1) f0 f1 ∧ TAt h' (b + rows.length) (itsOf b rows.length) ∧
    (∃ kept : List Value, kept.length = rows.length ∧ TAt h' (b + rows.length + 1) kept ∧ kept.take k = col.take k) ∧ ∀ (j : Nat) (row : Addr), rows[j]? = some row → h'.IsTupleIter (b + j) row (if j < k then i + 1 else i)
theorem ne_nat {a b : Nat} (h : ¬ (a = b)) : (show Addr from a) ≠ (show Addr from b) := h
theorem tuple_off {b n : Nat} {h h' : Heap} {l : Addr} {items : Array Value} (x : Off b n h h') (hl : l < b) (ht : h.IsTuple l items) : h'.IsTuple l items := by
  obtain ⟨o, ho, r⟩ := ht
  exact ⟨o, x l o (.inl hl) ho, r⟩
end
end ZS
namespace ZS
open PySem
section
variable {prog : Program} {w : World} {A : Around} {E : Value → Shared → Prop} {s : Shared}
theorem own_free {z TI TO : Addr} {f0 : Value} {f1 : Bool} (hz : ZAt s.heap z TI TO f0 f1) (hf : f0 = .none ∨ ∃ a : Nat, f0 = rawInt a) :
    wpAny (model prog w) A (Builtin.SmallTypes.ownedTupleIsFree (.ref z)) (fun r s' => (r = true ∧ s' = s) ∨ (r = false ∧ ∃ h', s' = { s with heap := h' } ∧ ZAt h' z TI TO f0 true ∧ Heap.SameBut z s.heap h')) E s := by
  unfold Builtin.SmallTypes.ownedTupleIsFree
  rcases hf with rfl | ⟨a, rfl⟩
  · exact wpAny_bind (wpAny_field hz rfl (x := .none) rfl (wpAny_pure (.inl ⟨rfl, rfl⟩)))
  · refine wpAny_bind (wpAny_field hz rfl (x := rawInt a) rfl ?_)
    show wpAny _ _ (loadIfAlive (Int.toNat a) >>= _) _ _ _
    refine wpAny_bind (alive ?_)
    rw [Int.toNat_natCast]
    cases e : s.heap.get? a with
    | none => exact wpAny_pure (.inl ⟨rfl, rfl⟩)
    | some o =>
      show wpAny _ _ (field (.ref z) 1 >>= _) _ _ _
      refine wpAny_bind (wpAny_field hz rfl (x := .bool f1) rfl ?_)
      cases f1 with
      | true => exact wpAny_pure (.inr ⟨rfl, s.heap, rfl, hz, ⟨rfl, fun _ _ => rfl⟩⟩)
      | false =>
        show wpAny _ _ (setField (.ref z) 1 (.bool true) >>= _) _ _ _
        exact wpAny_bind (wpAny_setField_rec hz (by simp) fun h' hz' hs' => wpAny_pure (.inr ⟨rfl, h', rfl, hz', hs'⟩))
theorem cons_drop {α : Type} {x : α} {rest L : List α} {k : Nat} (e : x :: rest = L.drop k) : L[k]? = some x ∧ rest = L.drop (k + 1) := by
  constructor
  · have := List.getElem?_drop (xs := L) (i := k) (j := 0)
    rw [← e] at this
    simpa using this.symm
  · rw [← List.drop_drop, ← e]; rfl
theorem zipIdx_at {b n k : Nat} {x : Value × Nat} (h : ((itsOf b n).zipIdx)[k]? = some x) : x = (.ref (b + k), k) ∧ k < n := by
  rw [List.getElem?_zipIdx] at h
  cases e : (itsOf b n)[k]? with
  | none => rw [e] at h; simp at h
  | some v =>
    have hk : k < n := by have := (List.getElem?_eq_some_iff.mp e).1; rw [its_len] at this; exact this
    rw [its_at hk] at e
    cases e
    rw [its_at hk] at h
    simp at h
    exact ⟨h.symm, hk⟩
set_option maxHeartbeats 4000000 in
theorem next_item {b : Nat} {rows : List Addr} {f0 : Value} {f1 : Bool} {i : Nat} {col : List Value} {Q : Value → Shared → Prop} (st : St0 s.heap b rows f0 f1 (fun _ => i)) (hf : f0 = .none ∨ ∃ a : Nat, f0 = rawInt a) (hn : 0 < rows.length) (hn2 : rows.length ≤ 1000)
    (hr : ∀ row ∈ rows, row < b) (hc : col.length = rows.length) (hx : ∀ (k : Nat) (row : Addr), rows[k]? = some row → ∃ (items : Array Value) (x : Value), s.heap.IsTuple row items ∧ items[i]? = some x ∧ col[k]? = some x)
    (hQ : ∀ h' f0' f1', St0 h' b rows f0' f1' (fun _ => i + 1) → (f0' = .none ∨ ∃ a : Nat, f0' = rawInt a) → TAt h' s.heap.objs.size col → h'.objs.size = s.heap.objs.size + 1 → Off b rows.length s.heap h' → Q (.ref s.heap.objs.size) { s with heap := h' }) :
    wpAny (model prog w) A (Builtin.«zip.__next__» ⟨[.ref (b + rows.length + 2)], []⟩) (fun fin s' => ∃ v, fin = .done (.ret v) ∧ Q v s') E s := by
  show wpAny _ _ (field (.ref (b + rows.length + 2)) 2 >>= _) _ _ _
  refine wpAny_bind (wpAny_field st.zip rfl (x := .bool false) rfl ?_)
  show wpAny _ _ (field (.ref (b + rows.length + 2)) 3 >>= _) _ _ _
  refine wpAny_bind (wpAny_field st.zip rfl (x := .ref (b + rows.length)) rfl ?_)
  refine wpAny_bind (wpAny_seqItems st.ti rfl ?_)
  have hem : (itsOf b rows.length).toArray.isEmpty = false := by
    have := its_len b rows.length
    cases e : itsOf b rows.length with
    | nil => rw [e] at this; simp at this; omega
    | cons _ _ => rfl
  dsimp only
  rw [if_neg (by rw [hem]; exact Bool.false_ne_true)]
  refine wpAny_bind (wpAny_mono (own_free st.zip hf) (fun r s1 h1 => ?_) (fun _ _ x => x))
  have hlt : b + rows.length + 2 < s.heap.objs.size := Heap.lt_size st.zip
  rcases h1 with ⟨rfl, rfl⟩ | ⟨rfl, h1, rfl, hz1, hs1⟩
  · -- the tuple that it keeps is free
    rw [if_pos rfl]
    refine wpAny_bind (wpAny_rule ?_)
    refine wpAny_bind (wpAny_field st.zip rfl (x := .ref (b + rows.length + 1)) rfl ?_)
    refine wpAny_bind (wpAny_setField_rec st.zip (by simp) fun h2 hz2 hs2 => ?_)
    replace hz2 : ZAt h2 (b + rows.length + 2) (b + rows.length) (b + rows.length + 1) .ellipsis f1 := hz2
    refine wpAny_bind (wpAny_mono (wpAny_forIn_list _ (fun rest bb s' => ∃ k, rest = ((itsOf b rows.length).zipIdx).drop k ∧ bb = (none, ()) ∧ Half s1 b rows i col .ellipsis f1 k s')
      (fun bb s' => bb = (none, ()) ∧ Half s1 b rows i col .ellipsis f1 rows.length s') ?turn ?fin _ _ ?start) ?after (fun _ _ x => x))
    case start =>
      obtain ⟨kept, hk1, hk2⟩ := st.to
      refine ⟨0, rfl, rfl, ⟨h2, rfl, hs2.1, Off.but hs2 (by omega), hz2, ?_, ⟨kept, hk1, ?_, by simp⟩, fun j row hj => ?_⟩⟩
      · show h2.get? _ = _
        rw [hs2.2 _ (ne_nat (by omega))]; exact st.ti
      · show h2.get? _ = _
        rw [hs2.2 _ (ne_nat (by omega))]; exact hk2
      · have hj' := (List.getElem?_eq_some_iff.mp hj).1
        obtain ⟨o, ho, r⟩ := st.it j row hj
        exact ⟨o, by rw [hs2.2 _ (ne_nat (by omega))]; exact ho, by simpa using r⟩
    case fin =>
      rintro bb s' ⟨k, e, rfl, hh⟩
      refine ⟨rfl, ?_⟩
      have hk : rows.length ≤ k := by
        have := congrArg List.length e
        rw [List.length_drop, List.length_zipIdx, its_len] at this
        simp at this
        omega
      obtain ⟨h', e1, e2, e3, e4, e5, ⟨kept, e6, e7, e8⟩, e9⟩ := hh.ex
      refine ⟨h', e1, e2, e3, e4, e5, ⟨kept, e6, e7, ?_⟩, fun j row hj => ?_⟩
      · rw [List.take_of_length_le (by omega), List.take_of_length_le (by omega)] at e8 ⊢
        exact e8
      · have := e9 j row hj
        have hj' := (List.getElem?_eq_some_iff.mp hj).1
        rw [if_pos (show j < k by omega)] at this
        rw [if_pos hj']; exact this
    case turn =>
      rintro x rest bb s' ⟨k, e, rfl, hh⟩
      obtain ⟨e1, e2⟩ := cons_drop e
      obtain ⟨rfl, hk⟩ := zipIdx_at e1
      obtain ⟨h', rfl, hsz, hoff, hz', hti', ⟨kept, hk1, hk2, hk3⟩, hits⟩ := hh.ex
      obtain ⟨row, hrow⟩ : ∃ row, rows[k]? = some row := ⟨rows[k], List.getElem?_eq_getElem hk⟩
      obtain ⟨items, v, hI, hv, hcv⟩ := hx k row hrow
      have hit := hits k row hrow
      rw [if_neg (Nat.lt_irrefl _)] at hit
      dsimp only
      refine wpAny_bind (wpAny_onRaise ?_)
      show wpAny _ _ (Builtin.SmallTypes.nextOf (.ref (b + k)) >>= _) _ _ _
      refine wpAny_bind (nextOf_item (s := { s1 with heap := h' }) hit (tuple_off hoff (hr row (List.mem_of_getElem? hrow)) hI) hv fun h3 hit3 hs3 => wpAny_pure ?_)
      dsimp only
      have hto3 : TAt h3 (b + rows.length + 1) kept := by
        show h3.get? _ = _
        rw [hs3.2 _ (ne_nat (by omega))]; exact hk2
      refine wpAny_bind (wpAny_seqItems (s := { s1 with heap := h3 }) hto3 rfl ?_)
      dsimp only
      refine wpAny_bind (wpAny_updateSeq (s := { s1 with heap := h3 }) hto3 rfl ?_ (by rw [List.size_toArray]; have := Pv.rLenQ; exact Nat.le_trans (by omega) (show 1000 ≤ sizeLine by decide)) (by simp only [Array.size_setIfInBounds, List.size_toArray]; exact Nat.le_trans (by omega) (show 1000 ≤ sizeLine + 1 by decide)))
      refine wpAny_bind (wpAny_letGo (wpAny_pure ?_))
      have hs4 : Heap.SameBut (b + rows.length + 1) h3 (h3.update (b + rows.length + 1) (Obj.mapSeq fun x => x.setIfInBounds k v)) := Heap.SameBut.update ..
      generalize hh4 : h3.update (b + rows.length + 1) (Obj.mapSeq fun x => x.setIfInBounds k v) = h4 at hs4
      have hto4 : TAt h4 (b + rows.length + 1) (kept.set k v) := by
        show h4.get? _ = _
        rw [← hh4, Heap.get?_update_self _ hto3 rfl]
        simp [Obj.mapSeq]
      refine ⟨k + 1, e2, rfl, ⟨h4, rfl, ?_, ?_, ?_, ?_, ⟨kept.set k v, ?_, hto4, ?_⟩, fun j row' hj => ?_⟩⟩
      · rw [hs4.1, hs3.1]; exact hsz
      · exact hoff.trans ((Off.but hs3 (by omega)).trans (Off.but hs4 (by omega)))
      · show h4.get? _ = _
        rw [hs4.2 _ (ne_nat (by omega)), hs3.2 _ (ne_nat (by omega))]; exact hz'
      · show h4.get? _ = _
        rw [hs4.2 _ (ne_nat (by omega)), hs3.2 _ (ne_nat (by omega))]; exact hti'
      · rw [List.length_set]; exact hk1
      · rw [List.take_add_one, List.take_add_one, hcv, List.getElem?_set_self (by omega), ← hk3, List.take_set_of_le (Nat.le_refl _)]
      · have hj' := (List.getElem?_eq_some_iff.mp hj).1
        by_cases hjk : j = k
        · subst hjk
          rw [hrow] at hj
          cases hj
          rw [if_pos (Nat.lt_succ_self _)]
          obtain ⟨o, ho, r⟩ := hit3
          exact ⟨o, by rw [hs4.2 _ (ne_nat (by omega))]; exact ho, r⟩
        · obtain ⟨o, ho, r⟩ := hits j row' hj
          refine ⟨o, by rw [hs4.2 _ (ne_nat (by omega)), hs3.2 _ (fun z => hjk (Nat.add_left_cancel z))]; exact ho, ?_⟩
          by_cases hlt' : j < k
          · rw [if_pos hlt'] at r; rw [if_pos (show j < k + 1 by omega)]; exact r
          · rw [if_neg hlt'] at r; rw [if_neg (show ¬ j < k + 1 by omega)]; exact r
    case after =>
      rintro bb s' ⟨rfl, hh⟩
      obtain ⟨h', rfl, hsz, hoff, hz', hti', ⟨kept, hk1, hk2, hk3⟩, hits⟩ := hh.ex
      rw [List.take_of_length_le (by omega), List.take_of_length_le (by omega)] at hk3
      subst hk3
      dsimp only
      refine wpAny_bind (wpAny_seqItems (s := { s1 with heap := h' }) hk2 rfl ?_)
      dsimp only
      refine wpAny_bind (wpAny_newTuple (s := { s1 with heap := h' }) ?_ (by show kept.toArray.toList.length ≤ sizeLine; rw [List.toList_toArray]; exact Nat.le_trans (show kept.length ≤ 1000 by omega) (by decide)))
      dsimp only
      rw [hsz]
      refine wpAny_bind ?_
      unfold Builtin.SmallTypes.ownedTupleHandOut
      have hz6 : ZAt (h'.push { cls := .type "tuple", data := .seq kept.toArray.toList.toArray }) (b + rows.length + 2) (b + rows.length) (b + rows.length + 1) .ellipsis f1 := Heap.get?_push_of_some _ hz'
      refine wpAny_bind (wpAny_setField_rec (s := { s1 with heap := h'.push { cls := .type "tuple", data := .seq kept.toArray.toList.toArray } }) hz6 (by simp) fun h7 hz7 hs7 => ?_)
      replace hz7 : ZAt h7 (b + rows.length + 2) (b + rows.length) (b + rows.length + 1) (rawInt s1.heap.objs.size) f1 := hz7
      refine wpAny_setField_rec (s := { s1 with heap := h7 }) hz7 (by simp) fun h8 hz8 hs8 => ?_
      replace hz8 : ZAt h8 (b + rows.length + 2) (b + rows.length) (b + rows.length + 1) (rawInt s1.heap.objs.size) false := hz8
      have up : ∀ c o, c ≠ b + rows.length + 2 → h'.get? c = some o → h8.get? c = some o := fun c o c1 e => by
        rw [hs8.2 _ c1, hs7.2 _ c1]; exact Heap.get?_push_of_some _ e
      refine wpAny_pure ⟨_, rfl, hQ h8 _ false ⟨hz8, up _ _ (ne_nat (by omega)) hti', ⟨kept, hk1, up _ _ (ne_nat (by omega)) hk2⟩, fun k row hk => ?_⟩ (.inr ⟨_, rfl⟩) ?_ ?_ ?_⟩
      · have hk' := (List.getElem?_eq_some_iff.mp hk).1
        have := hits k row hk
        rw [if_pos hk'] at this
        obtain ⟨o, ho, r⟩ := this
        exact ⟨o, up _ _ (ne_nat (by omega)) ho, r⟩
      · show h8.get? _ = _
        rw [hs8.2 _ (ne_nat (by omega)), hs7.2 _ (ne_nat (by omega)), ← hsz]
        exact Heap.get?_push_size _ rfl
      · rw [hs8.1, hs7.1, Heap.size_push, hsz]
      · intro c o r e
        exact up c o (ne_nat (by omega)) (hoff c o r e)
  · -- it is not
    rw [if_neg Bool.false_ne_true]
    have hti1 : TAt h1 (b + rows.length) (itsOf b rows.length) := by
      show h1.get? _ = _
      rw [hs1.2 _ (ne_nat (by omega))]; exact st.ti
    try dsimp only
    refine wpAny_bind (wpAny_mono (MeetsSeq2.wpAny_forIn_array _ (fun rest bb s' => ∃ k, rest = (itsOf b rows.length).drop k ∧ bb = (none, (col.take k).toArray) ∧ ∃ h', s' = { s with heap := h' } ∧ h'.objs.size = s.heap.objs.size ∧ Off b rows.length s.heap h' ∧
        ZAt h' (b + rows.length + 2) (b + rows.length) (b + rows.length + 1) f0 true ∧ TAt h' (b + rows.length) (itsOf b rows.length) ∧ (∃ kept : List Value, kept.length = rows.length ∧ TAt h' (b + rows.length + 1) kept) ∧ ∀ (j : Nat) (row : Addr), rows[j]? = some row → h'.IsTupleIter (b + j) row (if j < k then i + 1 else i))
      (fun bb s' => bb = (none, col.toArray) ∧ ∃ h', s' = { s with heap := h' } ∧ h'.objs.size = s.heap.objs.size ∧ Off b rows.length s.heap h' ∧ St0 h' b rows f0 true (fun _ => i + 1)) ?turn ?fin _ _ ?start) ?after (fun _ _ x => x))
    case start =>
      obtain ⟨kept, hk1, hk2⟩ := st.to
      refine ⟨0, by simp, by simp, h1, rfl, hs1.1, Off.but hs1 (by omega), hz1, hti1, ⟨kept, hk1, ?_⟩, fun j row hj => ?_⟩
      · show h1.get? _ = _
        rw [hs1.2 _ (ne_nat (by omega))]; exact hk2
      · have hj' := (List.getElem?_eq_some_iff.mp hj).1
        obtain ⟨o, ho, r⟩ := st.it j row hj
        exact ⟨o, by rw [hs1.2 _ (ne_nat (by omega))]; exact ho, by simpa using r⟩
    case fin =>
      rintro bb s' ⟨k, e, rfl, h', rfl, e2, e3, e4, e5, e6, e7⟩
      have hk : rows.length ≤ k := by
        have := congrArg List.length e
        rw [List.length_drop, its_len] at this
        simp at this
        omega
      refine ⟨by rw [List.take_of_length_le (by omega)], h', rfl, e2, e3, e4, e5, e6, fun j row hj => ?_⟩
      have := e7 j row hj
      have hj' := (List.getElem?_eq_some_iff.mp hj).1
      rw [if_pos (show j < k by omega)] at this
      exact this
    case turn =>
      rintro x rest bb s' ⟨k, e, rfl, h', rfl, hsz, hoff, hz', hti', hto', hits⟩
      obtain ⟨e1, e2⟩ := cons_drop e
      have hk : k < rows.length := by have := (List.getElem?_eq_some_iff.mp e1).1; rw [its_len] at this; exact this
      rw [its_at hk] at e1
      cases e1
      obtain ⟨row, hrow⟩ : ∃ row, rows[k]? = some row := ⟨rows[k], List.getElem?_eq_getElem hk⟩
      obtain ⟨items, v, hI, hv, hcv⟩ := hx k row hrow
      have hit := hits k row hrow
      rw [if_neg (Nat.lt_irrefl _)] at hit
      dsimp only
      refine wpAny_bind (wpAny_holding ?_)
      show wpAny _ _ (Builtin.SmallTypes.nextOf (.ref (b + k)) >>= _) _ _ _
      refine wpAny_bind (nextOf_item (s := { s with heap := h' }) hit (tuple_off hoff (hr row (List.mem_of_getElem? hrow)) hI) hv fun h3 hit3 hs3 => wpAny_pure ?_)
      dsimp only
      refine wpAny_pure ⟨k + 1, e2, ?_, h3, rfl, ?_, ?_, ?_, ?_, ?_, fun j row' hj => ?_⟩
      · rw [List.take_add_one, hcv]; simp
      · rw [hs3.1]; exact hsz
      · exact hoff.trans (Off.but hs3 (by omega))
      · show h3.get? _ = _
        rw [hs3.2 _ (ne_nat (by omega))]; exact hz'
      · show h3.get? _ = _
        rw [hs3.2 _ (ne_nat (by omega))]; exact hti'
      · obtain ⟨kept, hk1, hk2⟩ := hto'
        exact ⟨kept, hk1, by show h3.get? _ = _; rw [hs3.2 _ (ne_nat (by omega))]; exact hk2⟩
      · have hj' := (List.getElem?_eq_some_iff.mp hj).1
        by_cases hjk : j = k
        · subst hjk
          rw [hrow] at hj
          cases hj
          rw [if_pos (Nat.lt_succ_self _)]
          exact hit3
        · obtain ⟨o, ho, r⟩ := hits j row' hj
          refine ⟨o, by rw [hs3.2 _ (fun z => hjk (Nat.add_left_cancel z))]; exact ho, ?_⟩
          by_cases hlt' : j < k
          · rw [if_pos hlt'] at r; rw [if_pos (show j < k + 1 by omega)]; exact r
          · rw [if_neg hlt'] at r; rw [if_neg (show ¬ j < k + 1 by omega)]; exact r
    case after =>
      rintro bb s' ⟨rfl, h', rfl, hsz, hoff, st'⟩
      dsimp only
      refine wpAny_bind (wpAny_newTuple (s := { s with heap := h' }) ?_ (by show col.toArray.toList.length ≤ sizeLine; rw [List.toList_toArray]; exact Nat.le_trans (show col.length ≤ 1000 by omega) (by decide)))
      dsimp only
      rw [hsz]
      have up : ∀ c o, h'.get? c = some o → (h'.push { cls := .type "tuple", data := .seq col.toArray.toList.toArray }).get? c = some o := fun c o e => Heap.get?_push_of_some _ e
      refine wpAny_pure ⟨_, rfl, hQ _ _ true ⟨up _ _ st'.zip, up _ _ st'.ti, ?_, fun k row hk => ?_⟩ hf ?_ ?_ ?_⟩
      · obtain ⟨kept, hk1, hk2⟩ := st'.to
        exact ⟨kept, hk1, up _ _ hk2⟩
      · obtain ⟨o, ho, r⟩ := st'.it k row hk
        exact ⟨o, up _ _ ho, r⟩
      · rw [← hsz]; exact Heap.get?_push_size _ rfl
      · rw [Heap.size_push, hsz]
      · intro c o r e
        exact up _ _ (hoff c o r e)
end
end ZS
namespace ZS
open PySem
section
variable {prog : Program} {w : World} {A : Around} {E : Value → Shared → Prop} {s : Shared}
theorem its_cons {b n : Nat} (h : 0 < n) : ∃ rest, itsOf b n = .ref (b + 0) :: rest := by
  cases e : itsOf b n with
  | nil => have := its_len b n; rw [e] at this; simp at this; omega
  | cons x rest =>
    have := its_at (b := b) h
    rw [e] at this
    simp at this
    exact ⟨rest, by rw [this]; rfl⟩
set_option maxHeartbeats 4000000 in
theorem next_end {b : Nat} {rows : List Addr} {f0 : Value} {f1 : Bool} {i : Nat} {row : Addr} {items : Array Value} {Q : Fin → Shared → Prop} (hh : A.handled = none) (st : St0 s.heap b rows f0 f1 (fun _ => i)) (hf : f0 = .none ∨ ∃ a : Nat, f0 = rawInt a)
    (hr0 : rows[0]? = some row) (hrb : row < b) (hI : s.heap.IsTuple row items) (hx : items[i]? = none)
    (hE : ∀ h' e, Off b rows.length s.heap h' → (∃ o, h'.get? e = some o ∧ o.cls = .type "StopIteration") → E (.ref e) { s with heap := h' }) :
    wpAny (model prog w) A (Builtin.«zip.__next__» ⟨[.ref (b + rows.length + 2)], []⟩) Q E s := by
  have hn : 0 < rows.length := (List.getElem?_eq_some_iff.mp hr0).1
  obtain ⟨rest, hits⟩ := its_cons (b := b) hn
  show wpAny _ _ (field (.ref (b + rows.length + 2)) 2 >>= _) _ _ _
  refine wpAny_bind (wpAny_field st.zip rfl (x := .bool false) rfl ?_)
  show wpAny _ _ (field (.ref (b + rows.length + 2)) 3 >>= _) _ _ _
  refine wpAny_bind (wpAny_field st.zip rfl (x := .ref (b + rows.length)) rfl ?_)
  refine wpAny_bind (wpAny_seqItems st.ti rfl ?_)
  have hem : (itsOf b rows.length).toArray.isEmpty = false := by rw [hits]; rfl
  dsimp only
  rw [if_neg (by rw [hem]; exact Bool.false_ne_true)]
  refine wpAny_bind (wpAny_mono (own_free st.zip hf) (fun r s1 h1 => ?_) (fun _ _ x => x))
  have hlt : b + rows.length + 2 < s.heap.objs.size := Heap.lt_size st.zip
  have hit := st.it 0 row hr0
  rcases h1 with ⟨rfl, rfl⟩ | ⟨rfl, h1, rfl, hz1, hs1⟩
  · rw [if_pos rfl]
    refine wpAny_bind (wpAny_rule ?_)
    refine wpAny_bind (wpAny_field st.zip rfl (x := .ref (b + rows.length + 1)) rfl ?_)
    refine wpAny_bind (wpAny_setField_rec st.zip (by simp) fun h2 hz2 hs2 => ?_)
    replace hz2 : ZAt h2 (b + rows.length + 2) (b + rows.length) (b + rows.length + 1) .ellipsis f1 := hz2
    have o2 : Off b rows.length s1.heap h2 := Off.but hs2 (by omega)
    have hit2 : h2.IsTupleIter (b + 0) row i := by
      obtain ⟨o, ho, r⟩ := hit
      exact ⟨o, by rw [hs2.2 _ (ne_nat (by omega))]; exact ho, r⟩
    refine wpAny_bind ?_
    have hz0 : (itsOf b rows.length).toArray.toList.zipIdx = (.ref (b + 0), 0) :: rest.zipIdx 1 := by rw [hits]; rfl
    rw [hz0, List.forIn_cons]
    refine wpAny_bind (wpAny_bind (wpAny_onRaise ?_))
    show wpAny _ _ (Builtin.SmallTypes.nextOf (.ref (b + 0)) >>= _) _ _ _
    refine wpAny_bind (RZ.nextOf_tuple_end (s := { s1 with heap := h2 }) hh hit2 (tuple_off o2 hrb hI) hx fun h3 e hs3 he => ?_)
    obtain ⟨oe, hoe, hce⟩ := he
    have hz3 : ZAt h3 (b + rows.length + 2) (b + rows.length) (b + rows.length + 1) .ellipsis f1 := hs3 _ _ (ne_nat (by omega)) hz2
    have hez : e ≠ b + rows.length + 2 := fun x => by subst x; rw [hz3] at hoe; cases hoe; simp at hce
    refine wpAny_setField_rec (s := { s1 with heap := h3 }) hz3 (by simp) fun h4 _ hs4 => hE h4 e (fun c o r x => ?_) ⟨oe, by rw [hs4.2 _ hez]; exact hoe, hce⟩
    rw [hs4.2 _ (ne_nat (by omega))]
    exact hs3 _ _ (ne_nat (by omega)) (o2 c o r x)
  · rw [if_neg Bool.false_ne_true]
    have o1 : Off b rows.length s.heap h1 := Off.but hs1 (by omega)
    have hit1 : h1.IsTupleIter (b + 0) row i := by
      obtain ⟨o, ho, r⟩ := hit
      exact ⟨o, by rw [hs1.2 _ (ne_nat (by omega))]; exact ho, r⟩
    try dsimp only
    refine wpAny_bind ?_
    rw [← Array.forIn_toList, List.toList_toArray, hits, List.forIn_cons]
    refine wpAny_bind (wpAny_bind (wpAny_holding ?_))
    show wpAny _ _ (Builtin.SmallTypes.nextOf (.ref (b + 0)) >>= _) _ _ _
    refine wpAny_bind (RZ.nextOf_tuple_end (s := { s with heap := h1 }) hh hit1 (tuple_off o1 hrb hI) hx fun h3 e hs3 he => hE h3 e (fun c o r x => ?_) he)
    exact hs3 _ _ (ne_nat (by omega)) (o1 c o r x)
theorem pyNext_item {b : Nat} {rows : List Addr} {f0 : Value} {f1 : Bool} {i : Nat} {col : List Value} {Q : Option Value → Shared → Prop} (st : St0 s.heap b rows f0 f1 (fun _ => i)) (hf : f0 = .none ∨ ∃ a : Nat, f0 = rawInt a) (hn : 0 < rows.length) (hn2 : rows.length ≤ 1000)
    (hr : ∀ row ∈ rows, row < b) (hc : col.length = rows.length) (hx : ∀ (k : Nat) (row : Addr), rows[k]? = some row → ∃ (items : Array Value) (x : Value), s.heap.IsTuple row items ∧ items[i]? = some x ∧ col[k]? = some x)
    (hQ : ∀ h' f0' f1', St0 h' b rows f0' f1' (fun _ => i + 1) → (f0' = .none ∨ ∃ a : Nat, f0' = rawInt a) → TAt h' s.heap.objs.size col → h'.objs.size = s.heap.objs.size + 1 → Off b rows.length s.heap h' → Q (some (.ref s.heap.objs.size)) { s with heap := h' }) :
    wpAny (model prog w) A (pyNext (.ref (b + rows.length + 2))) Q E s := by
  have hT : s.TypeIs (.ref (b + rows.length + 2)) "zip" := ⟨_, st.zip, rfl⟩
  unfold pyNext
  exact wpAny_bind (wpAny_attempt (wpAny_callSpecial?_slot (name := Str.ofString "__next__") hT F.slot_zip_next
    (wpAny_call_entry F.slot_zip_next hT F.entry_zip_next
      (next_item st hf hn hn2 hr hc hx fun h' a b' a1 a2 a3 a4 a5 => wpAny_pure (hQ h' a b' a1 a2 a3 a4 a5)) (F.args_zip_next_1 _))))
theorem pyNext_end {b : Nat} {rows : List Addr} {f0 : Value} {f1 : Bool} {i : Nat} {row : Addr} {items : Array Value} {Q : Option Value → Shared → Prop} (hh : A.handled = none) (st : St0 s.heap b rows f0 f1 (fun _ => i)) (hf : f0 = .none ∨ ∃ a : Nat, f0 = rawInt a)
    (hr0 : rows[0]? = some row) (hrb : row < b) (hI : s.heap.IsTuple row items) (hx : items[i]? = none) (hQ : ∀ h', Off b rows.length s.heap h' → Q none { s with heap := h' }) :
    wpAny (model prog w) A (pyNext (.ref (b + rows.length + 2))) Q E s := by
  have hT : s.TypeIs (.ref (b + rows.length + 2)) "zip" := ⟨_, st.zip, rfl⟩
  unfold pyNext
  refine wpAny_bind (wpAny_attempt (wpAny_callSpecial?_slot (name := Str.ofString "__next__") hT F.slot_zip_next
    (wpAny_call_entry F.slot_zip_next hT F.entry_zip_next (next_end hh st hf hr0 hrb hI hx fun h' e hk he => ?_) (F.args_zip_next_1 _))))
  obtain ⟨o, ho, hc⟩ := he
  refine wpAny_bind (wpAny_isInstance (T := "StopIteration") (b := true) ⟨o, ho, hc⟩ isSubtype_stop ?_)
  exact wpAny_pure (hQ _ hk)
theorem pyIter_zip {z TI TO : Addr} {f0 : Value} {f1 : Bool} {Q : Value → Shared → Prop} (hz : ZAt s.heap z TI TO f0 f1) (h : Q (.ref z) s) : wpAny (model prog w) A (pyIter (.ref z)) Q E s := by
  have hT : s.TypeIs (.ref z) "zip" := ⟨_, hz, rfl⟩
  refine wpAny_pyIter_slot hT F.slot_zip_iter (wpAny_call_entry F.slot_zip_iter hT F.entry_zip_iter ?_ (F.args_zip_iter_1 _))
  show wpAny _ _ (ret (.ref z)) _ _ s
  exact wpAny_pure ⟨_, rfl, "zip", _, hT, F.slot_zip_next.lookup, h⟩
/-! making it -/
theorem typeCall (as : List Value) (h : as.length ≤ 7) : checkTypeCall "zip" ⟨as, []⟩ = pure () := by
  match as, h with
  | [], _ => kernel_rfl
  | [a], _ => kernel_rfl
  | [a, b], _ => kernel_rfl
  | [a, b, c], _ => kernel_rfl
  | [a, b, c, d], _ => kernel_rfl
  | [a, b, c, d, e], _ => kernel_rfl
  | [a, b, c, d, e, f], _ => kernel_rfl
  | [a, b, c, d, e, f, g], _ => kernel_rfl
  | _ :: _ :: _ :: _ :: _ :: _ :: _ :: _ :: _, h => simp at h
theorem newCall (as : List Value) (h : as.length ≤ 7) : checkBuiltinCall "zip.__new__" ⟨.type "zip" :: as, []⟩ = pure () := by
  match as, h with
  | [], _ => kernel_rfl
  | [a], _ => kernel_rfl
  | [a, b], _ => kernel_rfl
  | [a, b, c], _ => kernel_rfl
  | [a, b, c, d], _ => kernel_rfl
  | [a, b, c, d, e], _ => kernel_rfl
  | [a, b, c, d, e, f], _ => kernel_rfl
  | [a, b, c, d, e, f, g], _ => kernel_rfl
  | _ :: _ :: _ :: _ :: _ :: _ :: _ :: _ :: _, h => simp at h
theorem initArgs (o : Value) (as : List Value) (h : as.length ≤ 7) : argsOk "object.__init__" ⟨o :: as, []⟩ := by
  unfold argsOk
  rw [signature?_of (id := "object.__init__") (n := ['_', '_', 't', 'i', 'n', 'i', '_', '_']) (o := ['t', 'c', 'e', 'j', 'b', 'o']) (by kernel_rfl) F.owner_object]
  match as, h with
  | [], _ => kernel_rfl
  | [a], _ => kernel_rfl
  | [a, b], _ => kernel_rfl
  | [a, b, c], _ => kernel_rfl
  | [a, b, c, d], _ => kernel_rfl
  | [a, b, c, d, e], _ => kernel_rfl
  | [a, b, c, d, e, f], _ => kernel_rfl
  | [a, b, c, d, e, f, g], _ => kernel_rfl
  | _ :: _ :: _ :: _ :: _ :: _ :: _ :: _ :: _, h => simp at h
end
end ZS
namespace ZS
open PySem
def pushIts : Heap → List Addr → Heap
  | h, [] => h
  | h, l :: ls => pushIts (h.push { cls := .type "tuple_iterator", data := .fields #[.ref l, .int 0 0] }) ls
theorem push_size : ∀ (ls : List Addr) (h : Heap), (pushIts h ls).objs.size = h.objs.size + ls.length
  | [], h => rfl
  | l :: ls, h => by rw [pushIts, push_size ls, Heap.size_push, List.length_cons]; omega
theorem push_old : ∀ (ls : List Addr) (h : Heap) {c : Addr} {o : Obj}, h.get? c = some o → (pushIts h ls).get? c = some o
  | [], h, _, _, e => e
  | l :: ls, h, c, o, e => push_old ls _ (Heap.get?_push_of_some _ e)
theorem push_it : ∀ (ls : List Addr) (h : Heap) (k : Nat) (row : Addr), ls[k]? = some row → (pushIts h ls).IsTupleIter (h.objs.size + k) row 0
  | [], h, k, row, e => by simp at e
  | l :: ls, h, 0, row, e => by
    simp at e
    subst e
    exact ⟨_, push_old ls _ (Heap.get?_push_size _ rfl), rfl, rfl⟩
  | l :: ls, h, k + 1, row, e => by
    have := push_it ls (h.push { cls := .type "tuple_iterator", data := .fields #[.ref l, .int 0 0] }) k row (by simpa using e)
    rw [Heap.size_push] at this
    rw [show h.objs.size + (k + 1) = h.objs.size + 1 + k by omega]
    exact this
theorem push_snoc : ∀ (ls : List Addr) (h : Heap) (l : Addr), pushIts h (ls ++ [l]) = (pushIts h ls).push { cls := .type "tuple_iterator", data := .fields #[.ref l, .int 0 0] }
  | [], h, l => rfl
  | x :: ls, h, l => by rw [List.cons_append, pushIts, push_snoc ls, pushIts]
def Made (h : Heap) (rows : List Addr) (h' : Heap) : Prop := St0 h' h.objs.size rows .none false (fun _ => 0) ∧ ∀ c o, h.get? c = some o → h'.get? c = some o
set_option maxHeartbeats 4000000 in
theorem meets_new (rows : List Addr) (hn : rows.length ≤ 7) :
    Meets (Builtin.«zip.__new__» ⟨.type "zip" :: rows.map Value.ref, []⟩) (fun _ R s => (∀ row ∈ rows, ∃ items, s.heap.IsTuple row items) ∧
      ∀ h', Made s.heap rows h' → R (.ok (.ret (.ref (s.heap.objs.size + rows.length + 2)))) { s with heap := h' }) :=
  .of_wp fun prog w A R s h => by
    obtain ⟨hp, g, d, tk, os⟩ := s
    obtain ⟨ht, h⟩ := h
    have hsub := sub_zip
    wp_walk
    show wpAny (model prog w) A.in1 (forIn (rows.map Value.ref) (#[] : Array Value) (fun x its => holding its.toList (pyIter x) >>= fun v => pure (ForInStep.yield (its.push v)))) _ _ _
    refine wpAny_mono (wpAny_forIn_list _ (fun rest b s' => ∃ k, k ≤ rows.length ∧ rest = (rows.map Value.ref).drop k ∧ b = (itsOf hp.objs.size k).toArray ∧ s' = ⟨pushIts hp (rows.take k), g, d, tk, os⟩)
      (fun b s' => b = (itsOf hp.objs.size rows.length).toArray ∧ s' = ⟨pushIts hp rows, g, d, tk, os⟩) ?turn ?fin _ _ ?start) ?after (fun _ _ x => x)
    case start => exact ⟨0, Nat.zero_le _, rfl, rfl, by rw [List.take_zero]; rfl⟩
    case fin =>
      rintro b s' ⟨k, hk, e, rfl, rfl⟩
      have hk2 : rows.length ≤ k := by
        have := congrArg List.length e
        rw [List.length_drop, List.length_map] at this
        simp at this
        omega
      obtain rfl : k = rows.length := by omega
      exact ⟨rfl, by rw [List.take_length]⟩
    case turn =>
      rintro x rest b s' ⟨k, hk, e, rfl, rfl⟩
      obtain ⟨e1, e2⟩ := cons_drop e
      rw [List.getElem?_map] at e1
      obtain ⟨row, hrow, rfl⟩ := Option.map_eq_some_iff.mp e1
      obtain ⟨items, hI⟩ := ht row (List.mem_of_getElem? hrow)
      have hk2 := (List.getElem?_eq_some_iff.mp hrow).1
      have hI2 : (pushIts hp (rows.take k)).IsTuple row items := by
        obtain ⟨o, ho, r⟩ := hI
        exact ⟨o, push_old _ _ ho, r⟩
      refine wpAny_bind (wpAny_holding (wpAny_pyIter_tuple (s := ⟨pushIts hp (rows.take k), g, d, tk, os⟩) hI2 (wpAny_pure ⟨k + 1, by omega, e2, ?_, ?_⟩)))
      · show (itsOf hp.objs.size k).toArray.push (.ref (pushIts hp (rows.take k)).objs.size) = _
        rw [push_size, List.length_take, Nat.min_eq_left (by omega)]
        unfold itsOf
        rw [List.range_succ, List.map_append]
        simp
      · rw [List.take_add_one, hrow, Option.toList_some, push_snoc]
    case after =>
      rintro b s' ⟨rfl, rfl⟩
      have hz : ∀ l : List Value, l.length ≤ 7 → l.length ≤ sizeLine := fun l h => Nat.le_trans h (by decide)
      refine wpAny_pure ?_
      refine wpAny_bind (wpAny_newTuple (s := ⟨pushIts hp rows, g, d, tk, os⟩) ?_ (hz _ (by rw [List.toList_toArray, its_len]; exact hn)))
      refine wpAny_bind (wpAny_newTuple (s := ⟨(pushIts hp rows).push _, g, d, tk, os⟩) ?_ (hz _ (by rw [List.length_map, List.toList_toArray, its_len]; exact hn)))
      refine wpAny_bind (m := Builtin.SmallTypes.newRecord _ _) ?_
      unfold Builtin.SmallTypes.newRecord
      refine wpAny_newObj_type (s := ⟨((pushIts hp rows).push _).push _, g, d, tk, os⟩) ?_ (by show 5 ≤ sizeLine + 2; decide)
      have e1 : (pushIts hp rows).objs.size = hp.objs.size + rows.length := push_size rows hp
      have up : ∀ c o, hp.get? c = some o → (((pushIts hp rows).push { cls := .type "tuple", data := .seq (itsOf hp.objs.size rows.length).toArray.toList.toArray }).push { cls := .type "tuple", data := .seq ((itsOf hp.objs.size rows.length).toArray.toList.map fun _ => Value.none).toArray }).get? c = some o :=
        fun c o e => Heap.get?_push_of_some _ (Heap.get?_push_of_some _ (push_old _ _ e))
      have upI : ∀ c o, (pushIts hp rows).get? c = some o → (((pushIts hp rows).push { cls := .type "tuple", data := .seq (itsOf hp.objs.size rows.length).toArray.toList.toArray }).push { cls := .type "tuple", data := .seq ((itsOf hp.objs.size rows.length).toArray.toList.map fun _ => Value.none).toArray }).get? c = some o :=
        fun c o e => Heap.get?_push_of_some _ (Heap.get?_push_of_some _ e)
      dsimp only [Builtin.SmallTypes.ownedTupleFields, List.cons_append, List.nil_append]
      rw [Heap.size_push, Heap.size_push, e1]
      refine wpAny_pure ⟨_, rfl, ?_⟩
      have e2 : hp.objs.size + rows.length + 1 + 1 = hp.objs.size + rows.length + 2 := rfl
      rw [e2]
      refine h _ ⟨⟨?_, ?_, ⟨(itsOf hp.objs.size rows.length).map fun _ => Value.none, by rw [List.length_map, its_len], ?_⟩, fun k row hk => ?_⟩, fun c o e => Heap.get?_push_of_some _ (up c o e)⟩
      · show Heap.get? _ _ = _
        have e3 : (((pushIts hp rows).push { cls := .type "tuple", data := .seq (itsOf hp.objs.size rows.length).toArray.toList.toArray }).push { cls := .type "tuple", data := .seq ((itsOf hp.objs.size rows.length).toArray.toList.map fun _ => Value.none).toArray }).objs.size = hp.objs.size + rows.length + 2 := by rw [Heap.size_push, Heap.size_push, e1]
        rw [← e3]
        exact Heap.get?_push_size _ rfl
      · show Heap.get? _ _ = _
        refine Heap.get?_push_of_some _ (Heap.get?_push_of_some _ ?_)
        rw [← e1]
        exact Heap.get?_push_size _ rfl
      · show Heap.get? _ _ = _
        refine Heap.get?_push_of_some _ ?_
        have e4 : ((pushIts hp rows).push { cls := .type "tuple", data := .seq (itsOf hp.objs.size rows.length).toArray.toList.toArray }).objs.size = hp.objs.size + rows.length + 1 := by rw [Heap.size_push, e1]
        rw [← e4]
        exact Heap.get?_push_size _ rfl
      · obtain ⟨o, ho, r⟩ := push_it rows hp k row hk
        exact ⟨o, Heap.get?_push_of_some _ (upI _ _ ho), r⟩
section
variable {prog : Program} {w : World} {A : Around} {E : Value → Shared → Prop} {s : Shared}
theorem call_zipN {rows : List Addr} {Q : Value → Shared → Prop} (hn : rows.length ≤ 7) (ht : ∀ row ∈ rows, ∃ items, s.heap.IsTuple row items)
    (h : ∀ h', Made s.heap rows h' → Q (.ref (s.heap.objs.size + rows.length + 2)) { s with heap := h' }) : wpAny (model prog w) A (call (.type "zip") (rows.map Value.ref)) Q E s := by
  refine callType_new F.called_zip (by decide) (typeCall _ (by rw [List.length_map]; exact hn)) (newCall _ (by rw [List.length_map]; exact hn)) (fun obj => initArgs obj _ (by rw [List.length_map]; exact hn)) F.entry_zip_new
    (meets_new rows hn) ⟨ht, fun h' m => ?_⟩
  exact ⟨⟨_, m.1.zip, rfl⟩, h h' m⟩
end
end ZS
namespace Pv
open PySem PySem.Spec PyProof.Rows L2
/-- the tuples at rows as they stand at each turn, their items at the turn's place in a new tuple -/
def ItS (K : PySem.W.Frag) (rows : List Addr) : It :=
  ⟨fun i H => ∀ row ∈ rows, ∃ xs x, SqT K H row xs ∧ xs[i]? = some x,
    fun i H v H' => ∃ (T : Addr) (col : List V), v = .ref T ∧ H T = none ∧ H' = upd H T (.tup col) ∧ col.length = rows.length ∧ ∀ (k : Nat) (row : Addr), rows[k]? = some row → ∀ xs, SqT K H row xs → col[k]? = xs[i]?,
    fun i H => ∃ row xs, rows[0]? = some row ∧ SqT K H row xs ∧ xs.length ≤ i⟩
def ownZ (b n : Nat) : List Addr := (List.range (n + 3)).map fun k => b + k
theorem ownZ_mem {b n c : Nat} : c ∈ ownZ b n ↔ b ≤ c ∧ c ≤ b + n + 2 := by
  unfold ownZ
  rw [List.mem_map]
  constructor
  · rintro ⟨k, hk, rfl⟩
    rw [List.mem_range] at hk
    omega
  · rintro ⟨h1, h2⟩
    exact ⟨c - b, by rw [List.mem_range]; omega, by omega⟩
def iZipS (K : PySem.W.Frag) (te : TE) : TI := fun σ H R => te σ H fun x H1 => ∃ (a : Addr) (rows : List Addr), x = .ref a ∧ SqT K H1 a (rows.map V.ref) ∧ 0 < rows.length ∧ rows.length ≤ 7 ∧ (∀ row ∈ rows, ∃ xs, SqT K H1 row xs) ∧ R (ItS K rows) H1
theorem vals_refs : ∀ {rows : List Addr} {us : List Value}, Vals (rows.map V.ref) us → us = rows.map Value.ref
  | [], _, h => by cases h; rfl
  | r :: rows, _, h => by
    cases h with
    | cons h1 h2 => cases h1; rw [vals_refs h2]; rfl
end Pv
namespace Pv
open PySem PySem.Spec PyProof.Rows L2
theorem nolen_zip : typeLookup (.type "zip") "__len__" = pure none := by rw [typeLookup_type, builtinLookup_eq_fast]; kernel_rfl
theorem nohint_zip : typeLookup (.type "zip") "__length_hint__" = pure none := by rw [typeLookup_type, builtinLookup_eq_fast]; kernel_rfl
def colV (xss : List (List V)) (i : Nat) : List V := xss.map fun xs => xs.getD i .non
theorem colsL {X : Cx} {pins : List (Addr × Obj)} {σ : L2.St} {H : Hp} {s : Shared} {i : Nat} (I : Inv X pins σ H s) : ∀ {rows : List Addr} {xss : List (List V)}, xss.length = rows.length → (∀ (k : Nat) (row : Addr) (xs : List V), rows[k]? = some row → xss[k]? = some xs → SqL X.K H row xs ∧ i < xs.length) →
    ∃ cu : List Value, Vals (colV xss i) cu ∧ cu.length = rows.length ∧ ∀ (k : Nat) (row : Addr), rows[k]? = some row → ∃ (items : Array Value) (u : Value), s.heap.IsList row items ∧ items[i]? = some u ∧ cu[k]? = some u
  | [], [], _, _ => ⟨[], .nil, rfl, fun k row h => by simp at h⟩
  | [], _ :: _, hl, _ => by simp at hl
  | _ :: _, [], hl, _ => by simp at hl
  | r :: rows, xs :: xss, hl, h => by
    obtain ⟨cu, h1, h3, h4⟩ := colsL I (rows := rows) (xss := xss) (by simpa using hl) (fun k row ys hk hy => h (k + 1) row ys (by simpa using hk) (by simpa using hy))
    obtain ⟨hT, hi⟩ := h 0 r xs rfl rfl
    obtain ⟨its, rv, p, _⟩ := I.list hT
    obtain ⟨u, hu, ru⟩ := rv.get (List.getElem?_eq_getElem hi)
    refine ⟨u :: cu, .cons ?_ h1, by simp [h3], fun k row hk => ?_⟩
    · show RelV (xs.getD i V.non) u
      rw [List.getD_eq_getElem?_getD, List.getElem?_eq_getElem hi]; exact ru
    cases k with
    | zero =>
      simp at hk
      subst hk
      exact ⟨its.toArray, u, p.isList, by simpa using hu, rfl⟩
    | succ k =>
      have := h4 k row (by simpa using hk)
      simpa using this
section
variable {X : Cx} {pins : List (Addr × Obj)} {σ : L2.St}
structure ZSt (X : Cx) (pins : List (Addr × Obj)) (b : Nat) (rows : List Addr) (xss : List (List V)) (n : Nat) (H : Hp) (s : Shared) (i : Nat) (S : Addr) (ts : List Addr) (H0 : Hp) : Prop where
  st : ∃ f0 f1, ZL.St0 s.heap b rows f0 f1 (fun _ => i) ∧ (f0 = .none ∨ ∃ a : Nat, f0 = rawInt a)
  fp : ∀ c ∈ ownZ b rows.length, FpOk X pins H c
  hS : H S = some (.lst (ts.map V.ref))
  tl : ts.length = i
  ta : ∀ (j : Nat) (T : Addr), ts[j]? = some T → H T = some (.tup (colV xss j))
  sm : Same H0 H
theorem loopZ {A : Around} {R : Result → Shared → Prop} (hA : A.in1.handled = none) {b : Nat} {rows : List Addr} {xss : List (List V)} {n : Nat} (hn : 0 < rows.length) (hn2 : rows.length ≤ 1000) (hb : ∀ row ∈ rows, row < b) (hl : xss.length = rows.length) (hx : ∀ xs ∈ xss, xs.length = n) (hnz : n ≤ 1000) (S : Addr) (res : Value) (H0 : Hp)
    (fS : H0 S = none) (rw0 : ∀ (k : Nat) (row : Addr) (xs : List V), rows[k]? = some row → xss[k]? = some xs → SqL X.K H0 row xs)
    (hR : ∀ (s' : Shared) (H' : Hp) (ts' : List Addr), Inv X pins σ H' s' → H' S = some (.lst (ts'.map V.ref)) → ts'.length = n → (∀ (j : Nat) (T : Addr), ts'[j]? = some T → H' T = some (.tup (colV xss j))) → Same H0 H' → R (.ok (.ret res)) s') :
    ∀ (k i : Nat) (s : Shared) (H : Hp) (ts : List Addr), n - i = k → i ≤ n → Inv X pins σ H s → ZSt X pins b rows xss n H s i S ts H0 →
    codeAny (model X.prog X.w) A (.builtin "list.extend.loop" ⟨[.ref S, .ref (b + rows.length + 2), res], []⟩) R s := by
  have hlen : ∀ (k : Nat) (xs : List V), xss[k]? = some xs → xs.length = n := fun k xs h => hx xs (List.mem_of_getElem? h)
  intro k
  induction k with
  | zero =>
    intro i s H ts hk hi I Z
    have hin : i = n := by omega
    subst hin
    refine codeAny_builtin F.entry_extend_loop ?_
    rw [Around.under_plainId F.plain_extend_loop _]
    show wpAny _ A.in1 (pyNext (.ref (b + rows.length + 2)) >>= _) _ _ s
    obtain ⟨f0, f1, st, hfr⟩ := Z.st
    have hr0 : rows[0]? = some rows[0] := List.getElem?_eq_getElem hn
    have hx0 : xss[0]? = some xss[0] := List.getElem?_eq_getElem (by omega)
    obtain ⟨its, rv, p, _⟩ := I.list (Z.sm.seq (rw0 0 _ _ hr0 hx0))
    have l1 := rv.length
    have l2 := hlen 0 _ hx0
    refine wpAny_bind (ZL.pyNext_end hA st hfr hr0 (hb _ (List.getElem_mem hn)) p.isList (by simp; omega) fun h' hoff => ?_)
    exact wpAny_pure (hR _ H ts (I.turnedL (t' := s.toks) (ch := ownZ b rows.length) (fun c o hb' q => hoff c o (by rw [ownZ_mem] at hb'; omega) q) Z.fp) Z.hS Z.tl Z.ta Z.sm)
  | succ k ih =>
    intro i s H ts hk hi I Z
    have hlt : i < n := by omega
    refine codeAny_builtin F.entry_extend_loop ?_
    rw [Around.under_plainId F.plain_extend_loop _]
    show wpAny _ A.in1 (pyNext (.ref (b + rows.length + 2)) >>= _) _ _ s
    obtain ⟨f0, f1, st, hfr⟩ := Z.st
    obtain ⟨cu, c1, c2, c3⟩ := colsL (i := i) I hl (fun k row xs h1 h2 => ⟨Z.sm.seq (rw0 k row xs h1 h2), by rw [hlen k xs h2]; exact hlt⟩)
    have hzlt : b + rows.length + 2 < s.heap.objs.size := Heap.lt_size st.zip
    refine wpAny_bind (ZL.pyNext_item st hfr hn hn2 hb c2 c3 fun h' f0' f1' st' hf' hT hsz hoff => ?_)
    have hcl : (colV xss i).length = rows.length := by unfold colV; rw [List.length_map, hl]
    have new : ObjOk X.prog X.w (upd H s.heap.objs.size (.tup (colV xss i))) h' s.heap.objs.size (.tup (colV xss i)) :=
      ⟨Nat.le_trans (show (colV xss i).length ≤ 1000 by omega) (by decide), cu, c1, ⟨_, hT, rfl, _, rfl⟩⟩
    have I1 : Inv X pins σ (upd H s.heap.objs.size (.tup (colV xss i))) { s with heap := h' } :=
      I.turnedNew (t' := s.toks) (ch := ownZ b rows.length) (fun c o hb' q => hoff c o (by rw [ownZ_mem] at hb'; omega) q) Z.fp (Nat.le_refl _) new
    have nT : H s.heap.objs.size = none := I.hok.fresh (Nat.le_refl _)
    have sT := sameNew (o := .tup (colV xss i)) nT
    have hS1 := sT _ _ Z.hS
    obtain ⟨zz, its, nn, rr, ll, ee⟩ := I1.lstM hS1
    have hSz : S ≠ s.heap.objs.size := ne_of_none Z.hS nT
    show wpAny _ A.in1 (updateSeq S (·.push (.ref s.heap.objs.size)) >>= _) _ _ _
    refine wpAny_bind ?_
    have I2 : Inv X pins σ (upd (upd H s.heap.objs.size (.tup (colV xss i))) S (.lst ((ts ++ [s.heap.objs.size]).map V.ref))) { s with heap := h'.update S (Obj.mapSeq (·.push (.ref s.heap.objs.size))) } := by
      refine I1.lset (t' := s.toks) (its' := its ++ [.ref s.heap.objs.size]) (f := fun a => a.push (.ref s.heap.objs.size)) hS1 ee (by simp) ?_ ?_
      · rw [List.map_append]; exact rr.append (.cons rfl .nil)
      · rw [List.length_map, List.length_append, Z.tl]; exact Nat.le_trans (show i + 1 ≤ 1000 by omega) (by decide)
    have hSown : S ∉ ownZ b rows.length := fun hm => by have := (Z.fp S hm).1; rw [Z.hS] at this; cases this
    refine wpAny_updateSeq ee rfl (wpAny_pure ⟨plainId_quiet F.plain_extend_loop _, ih (i + 1) _ _ (ts ++ [s.heap.objs.size]) (by omega) hlt I2 ⟨⟨f0', f1', ?_, hf'⟩, fun c hc => ?_, upd_same, by simp [Z.tl], fun j T hj => ?_, samePut (Z.sm.trans sT) fS⟩⟩) ?_ ?_
    · have oth : ∀ c o, b ≤ c → c ≤ b + rows.length + 2 → h'.get? c = some o → (h'.update S (Obj.mapSeq (·.push (.ref s.heap.objs.size)))).get? c = some o := fun c o h1 h2 e => (Heap.get?_update_other _ _ (fun z => hSown (by rw [z]; exact ownZ_mem.mpr ⟨h1, h2⟩))).trans e
      refine ⟨oth _ _ (by omega) (by omega) st'.zip, oth _ _ (by omega) (by omega) st'.ti, ?_, fun k row hk => ?_⟩
      · obtain ⟨kept, h1, h2⟩ := st'.to
        exact ⟨kept, h1, oth _ _ (by omega) (by omega) h2⟩
      · have hk' := (List.getElem?_eq_some_iff.mp hk).1
        obtain ⟨o, ho, r⟩ := st'.it k row hk
        exact ⟨o, oth _ _ (by omega) (by omega) ho, r⟩
    · obtain ⟨q1, q2⟩ := Z.fp c hc
      refine ⟨?_, q2⟩
      have h1 : c ≠ S := fun z => hSown (z ▸ hc)
      have h2 : c ≠ s.heap.objs.size := by have := (ownZ_mem.mp hc).2; exact Nat.ne_of_lt (by omega)
      rw [upd_ne h1, upd_ne h2]; exact q1
    · by_cases hji : j < ts.length
      · rw [List.getElem?_append_left hji] at hj
        have e := Z.ta j T hj
        rw [upd_ne (ne_of e Z.hS (by intro z; cases z)), upd_ne (ne_of_none e nT)]
        exact e
      · have hjl := (List.getElem?_eq_some_iff.mp hj).1
        have e1 : j = ts.length := by simp at hjl; omega
        subst e1
        simp at hj
        subst hj
        rw [upd_ne hSz.symm, upd_same, Z.tl]
    · show its.toArray.size ≤ _
      rw [List.size_toArray, ← ll, List.length_map, Z.tl]
      exact Nat.le_trans (show i ≤ 1000 by omega) (by decide)
    · show (its.toArray.push _).size ≤ _
      rw [Array.size_push, List.size_toArray, ← ll, List.length_map, Z.tl]
      exact Nat.le_trans (show i + 1 ≤ 1001 by omega) (by decide)
theorem call_listZ {E : Value → Shared → Prop} {Q : Value → Shared → Prop} {s : Shared} {H : Hp} (I : Inv X pins σ H s) (hA : X.A.handled = none) {b : Nat} {rows : List Addr} {xss : List (List V)} {n : Nat} (hn : 0 < rows.length) (hn2 : rows.length ≤ 1000) (hb : ∀ row ∈ rows, row < b) (hl : xss.length = rows.length) (hx : ∀ xs ∈ xss, xs.length = n) (hnz : n ≤ 1000)
    (st : ZL.St0 s.heap b rows .none false (fun _ => 0)) (fp : ∀ c ∈ ownZ b rows.length, FpOk X pins H c) (rw0 : ∀ (k : Nat) (row : Addr) (xs : List V), rows[k]? = some row → xss[k]? = some xs → SqL X.K H row xs)
    (hR : ∀ (s' : Shared) (H' : Hp) (L : Addr) (ts' : List Addr), Inv X pins σ H' s' → H L = none → H' L = some (.lst (ts'.map V.ref)) → ts'.length = n → (∀ (j : Nat) (T : Addr), ts'[j]? = some T → H' T = some (.tup (colV xss j))) → Same H H' → Q (.ref L) s') :
    wpAny (model X.prog X.w) X.A (call (.type "list") [.ref (b + rows.length + 2)]) Q E s := by
  have hzlt : b + rows.length + 2 < s.heap.objs.size := Heap.lt_size st.zip
  have fS : H s.heap.objs.size = none := I.hok.fresh (Nat.le_refl _)
  refine callType_codes (Q₁ := fun obj s₁ => obj = .ref s.heap.objs.size ∧ s₁ = { s with heap := s.heap.push { cls := .type "list", data := .seq #[] } }) F.called_list (F.typeCall_list_1 _) F.entry_list_init
    (code_list_new _ ⟨rfl, rfl⟩) fun obj s₁ h₁ => ?_
  obtain ⟨rfl, rfl⟩ := h₁
  have hS : (s.heap.push { cls := .type "list", data := .seq #[] }).get? s.heap.objs.size = some { cls := .type "list", data := .seq #[] } := Heap.get?_push_size _ rfl
  have I0 : Inv X pins σ (upd H s.heap.objs.size (.lst [])) { s with heap := s.heap.push { cls := .type "list", data := .seq #[] } } :=
    I.laid (t' := s.toks) (fun _ _ q => Heap.get?_push_of_some _ q) (Nat.le_refl _) ⟨Nat.zero_le _, [], 0, .nil, hS⟩
  refine ⟨⟨_, hS, rfl⟩, F.args_list_init_2 _ _, ?_⟩
  show wpAny _ _ (do let old ← Builtin.List.listItems (.ref s.heap.objs.size); Builtin.List.listUpdate (.ref s.heap.objs.size) (fun _ => #[]); letGo old.toList.reverse; Builtin.List.listExtendWith (.ref s.heap.objs.size) (.ref (b + rows.length + 2)) .none) _ _ _
  refine wpAny_bind ?_
  unfold Builtin.List.listItems
  refine wpAny_bind (wpAny_seqItems hS rfl (wpAny_pure ?_))
  show wpAny _ _ (updateSeq s.heap.objs.size (fun _ => #[]) >>= fun _ => letGo (#[] : Array Value).toList.reverse >>= fun _ => Builtin.List.listExtendWith (.ref s.heap.objs.size) (.ref (b + rows.length + 2)) .none) _ _ _
  refine wpAny_bind (wpAny_updateSeq hS rfl ?_)
  have hS₁ := Heap.get?_update_self (Obj.mapSeq (fun _ => (#[] : Array Value))) hS rfl
  have I1 := I0.lset (t' := s.toks) (its := []) (its' := []) (ys := []) (f := fun _ => (#[] : Array Value)) upd_same hS rfl .nil (Nat.zero_le _)
  rw [upd_upd] at I1
  have k1 : ∀ c o, c ≠ s.heap.objs.size → s.heap.get? c = some o → ((s.heap.push { cls := .type "list", data := .seq #[] }).update s.heap.objs.size (Obj.mapSeq (fun _ => (#[] : Array Value)))).get? c = some o :=
    fun c o hc e => (Heap.get?_update_other _ _ (Ne.symm hc)).trans (Heap.get?_push_of_some _ e)
  generalize (s.heap.push { cls := .type "list", data := .seq #[] }).update s.heap.objs.size (Obj.mapSeq (fun _ => (#[] : Array Value))) = h1 at *
  refine wpAny_bind (wpAny_letGo ?_)
  have hz1 : h1.get? (b + rows.length + 2) = _ := k1 _ _ (Nat.ne_of_lt hzlt) st.zip
  have hT1 : ({ s with heap := h1 } : Shared).TypeIs (.ref (b + rows.length + 2)) "zip" := ⟨_, hz1, rfl⟩
  unfold Builtin.List.listExtendWith
  refine wpAny_bind (wpAny_typeOf hT1 ?_)
  have g1 : Builtin.List.listSameRef (.ref s.heap.objs.size) (.ref (b + rows.length + 2)) = false := by
    have : s.heap.objs.size ≠ b + rows.length + 2 := Nat.ne_of_gt hzlt
    simp [Builtin.List.listSameRef, this]
  have g2 : (Value.type "zip" == Value.type "list") = false := by decide
  have g3 : (Value.type "zip" == Value.type "tuple") = false := by decide
  simp only [g1, g2, g3, Bool.or_false, Bool.false_eq_true, if_false]
  refine wpAny_bind (ZL.pyIter_zip (s := { s with heap := h1 }) hz1 ?_)
  refine wpAny_bind (wpAny_holding ?_)
  unfold Builtin.List.listLengthHint
  refine wpAny_bind (wpAny_specialOf hT1 nolen_zip ?_)
  show wpAny _ _ (specialOf (Value.ref (b + rows.length + 2)) (Str.ofString "__length_hint__") >>= _) _ _ _
  refine wpAny_bind (wpAny_specialOf hT1 nohint_zip ?_)
  refine wpAny_pure ?_
  show wpAny _ _ (rule "list.extend.makes-room" >>= fun _ => Builtin.List.listTouch (.ref s.heap.objs.size) >>= fun _ =>
    again (.builtin "list.extend.loop" ⟨[.ref s.heap.objs.size, .ref (b + rows.length + 2), .none], []⟩)) _ _ _
  refine wpAny_bind (wpAny_rule ?_)
  refine wpAny_bind ?_
  show wpAny _ _ (updateSeq s.heap.objs.size (·.push .none) >>= fun _ => updateSeq s.heap.objs.size (·.pop)) _ _ _
  refine wpAny_bind (wpAny_updateSeq (s := { s with heap := h1 }) hS₁ rfl ?_)
  have hS₂ := Heap.get?_update_self (Obj.mapSeq (·.push Value.none)) hS₁ rfl
  have I2 := I1.lset (t' := s.toks) (its := []) (its' := [Value.none]) (ys := [V.non]) (f := fun a => a.push Value.none) upd_same hS₁ rfl (.cons rfl .nil) (show (1 : Nat) ≤ sizeLine by decide)
  rw [upd_upd] at I2
  have k2 : ∀ c o, c ≠ s.heap.objs.size → s.heap.get? c = some o → (h1.update s.heap.objs.size (Obj.mapSeq (·.push Value.none))).get? c = some o :=
    fun c o hc e => (Heap.get?_update_other _ _ (Ne.symm hc)).trans (k1 c o hc e)
  refine wpAny_updateSeq (s := { s with heap := h1.update s.heap.objs.size (Obj.mapSeq (·.push Value.none)) }) hS₂ rfl ?_
  obtain ⟨_, its2, n2, r2, l2, e2⟩ := I2.lstM upd_same
  obtain ⟨u2, rfl⟩ : ∃ u2, its2 = [u2] := by
    cases r2 with
    | cons a b => cases b; exact ⟨_, rfl⟩
  have I3 := I2.lset (t' := s.toks) (its' := []) (ys := []) (f := fun a => a.pop) upd_same e2 rfl .nil (Nat.zero_le _)
  rw [upd_upd] at I3
  have k3 : ∀ c o, c ≠ s.heap.objs.size → s.heap.get? c = some o → ((h1.update s.heap.objs.size (Obj.mapSeq (·.push Value.none))).update s.heap.objs.size (Obj.mapSeq (·.pop))).get? c = some o :=
    fun c o hc e => (Heap.get?_update_other _ _ (Ne.symm hc)).trans (k2 c o hc e)
  have hown : ∀ c ∈ ownZ b rows.length, c ≠ s.heap.objs.size := fun c hc => by have := (ownZ_mem.mp hc).2; exact Nat.ne_of_lt (by omega)
  have kz : ∀ c o, b ≤ c → c ≤ b + rows.length + 2 → s.heap.get? c = some o → ((h1.update s.heap.objs.size (Obj.mapSeq (·.push Value.none))).update s.heap.objs.size (Obj.mapSeq (·.pop))).get? c = some o :=
    fun c o h1 h2 e => k3 c o (hown c (ownZ_mem.mpr ⟨h1, h2⟩)) e
  refine wpAny_pure ⟨plainId_quiet F.plain_extend_loop _, loopZ (X := X) (pins := pins) (σ := σ) (show X.A.in1.in1.handled = none from hA) hn hn2 hb hl hx hnz s.heap.objs.size .none H fS rw0 (fun s' H' ts' J e1 e2 e3 e4 => ⟨rfl, hR s' H' _ ts' J fS e1 e2 e3 e4⟩) n 0 _ _ [] rfl (Nat.zero_le _) I3 ⟨⟨.none, false, ?_, .inl rfl⟩, fun c hc => ?_, upd_same, rfl, fun j T h => by simp at h, sameNew fS⟩⟩
  · refine ⟨kz _ _ (by omega) (by omega) st.zip, kz _ _ (by omega) (by omega) st.ti, ?_, fun k row hk => ?_⟩
    · obtain ⟨kept, h1, h2⟩ := st.to
      exact ⟨kept, h1, kz _ _ (by omega) (by omega) h2⟩
    · have hk' := (List.getElem?_eq_some_iff.mp hk).1
      obtain ⟨o, ho, r⟩ := st.it k row hk
      exact ⟨o, kz _ _ (by omega) (by omega) ho, r⟩
  · obtain ⟨q1, q2⟩ := fp c hc
    refine ⟨?_, q2⟩
    rw [upd_ne (hown c hc)]; exact q1
/-- list(zip(*rows)), rows a list of lists of one length -/
def tLZ (K : PySem.W.Frag) (te : TE) : TE := fun σ H Q => te σ H fun x H1 => ∃ (a : Addr) (rows : List Addr) (xss : List (List V)) (n : Nat), x = .ref a ∧ SqL K H1 a (rows.map V.ref) ∧ 0 < rows.length ∧ rows.length ≤ 72 ∧ xss.length = rows.length ∧ (∀ xs ∈ xss, xs.length = n) ∧ n ≤ 1000 ∧
  (∀ (k : Nat) (row : Addr) (xs : List V), rows[k]? = some row → xss[k]? = some xs → SqL K H1 row xs) ∧ ∀ (H' : Hp) (L : Addr) (ts : List Addr), Same H1 H' → H1 L = none → H' L = some (.lst (ts.map V.ref)) → ts.length = n → (∀ (i : Nat) (T : Addr), ts[i]? = some T → H' T = some (.tup (colV xss i))) → Q (.ref L) H'
theorem pe_listZ {e : Expr} {te : TE} {p p2 pos pos2 sp_ : Pos} (hc : X.calm = true) (hgl : Gl X "list") (hml : X.mg "list" = none) (hg : Gl X "zip") (hm : X.mg "zip" = none) (he : PE X e te)
    (hst : starEach [.Starred e sp_] X.env = [(true, eval e X.env)] := by rfl)
    (hs2 : starEach [.Call (.Name "zip" p2) [.Starred e sp_] [] pos2] X.env = [(false, eval (.Call (.Name "zip" p2) [.Starred e sp_] [] pos2) X.env)] := by rfl) :
    PE X (.Call (.Name "list" p) [.Call (.Name "zip" p2) [.Starred e sp_] [] pos2] [] pos) (tLZ X.K te) := by
  refine ⟨fun pins s σ H Q I h => ?_⟩
  refine wpAny_Call_Name_kw (ld_blt I hgl hml PyProof.Rows.boot_list ?_)
  refine PyProof.Rows.callWith_type1 ?_ hs2
  rw [hs2]
  show wpAny _ _ (spliced ((false, eval (.Call (.Name "zip" p2) [.Starred e sp_] [] pos2) X.env) :: [])) _ _ s
  refine Calls.spliced_cons ?_
  refine Call_ (ld_blt I hg hm PyProof.Rows.boot_zip ?_)
  rw [hst]
  refine PySem.W.ks_call (P := fun _ => True) rfl (fun h _ => ⟨.machine, .inr (.inl rfl), fun A Q E s _ q => wpAny_pure q⟩) (PySem.W.ks_lone (thn (he.run pins s σ H _ I h) fun v s1 ⟨x, H1, I1, rx, a, rows, xss, n, ex, hT, hn, hn2, hl, hx, hnz, hrows, q⟩ => ?_))
  subst ex
  obtain rfl : v = Value.ref a := rx
  refine StX.star_any I1 (.inr hT) fun us s2 I2 rv => ⟨trivial, ?_⟩
  rw [vals_refs rv]
  have hlt : ∀ row ∈ rows, row < s2.heap.objs.size ∧ ∃ items, s2.heap.IsList row items := fun row hr => by
    obtain ⟨k, hk, e⟩ := List.getElem_of_mem hr
    have hx2 := hrows k row (xss[k]'(by omega)) (by rw [List.getElem?_eq_getElem hk, e]) (List.getElem?_eq_getElem _)
    obtain ⟨its, _, p1, _⟩ := I2.list hx2
    obtain ⟨o, ho, _⟩ := id p1.isList
    exact ⟨Heap.lt_size ho, its.toArray, p1.isList⟩
  refine ZL.call_zipN hn2 (fun row hr => (hlt row hr).2) fun h' m => ?_
  have I3 : Inv X pins σ H1 { s2 with heap := h' } := I2.kept (t' := s2.toks) m.2
  refine Calls.spliced_nil ?_
  refine call_listZ (s := { s2 with heap := h' }) I3 (I3.ok.hd hc) hn (by omega) (fun row hr => (hlt row hr).1) hl hx hnz m.1 (fun c hcm => ?_) hrows fun s' H' L ts J nL e1 e2 e3 sm => ?_
  · have hle := (ownZ_mem.mp hcm).1
    exact I2.fpOk hle (I2.hok.fresh hle)
  · exact ⟨.ref L, H', J, rfl, q H' L ts sm nL e1 e2 e3⟩
end
end Pv
/-! sorted(t), set(t), len(set(t)) of a tuple of ints -/
namespace PyProof.Rows
open PySem
section
variable {prog : Program} {w : World} {A : Around} {E : Value → Shared → Prop} {s : Shared}
end
end PyProof.Rows
namespace Pv
open PySem PySem.Spec PyProof.Rows L2
section
variable {X : Cx}
def rSortedT (K : PySem.W.Frag) : RC := fun vs H Q => ∃ (a : Addr) (ns : List Int), vs = [V.ref a] ∧ SqT K H a (ns.map V.int) ∧ ns.length < 64 ∧
  ∀ (ns' : List Int) (p : Addr), ns'.Perm ns → ns'.Pairwise (· ≤ ·) → H p = none → Q (.ref p) (upd H p (.lst (ns'.map V.int)))
def rSetT (w : World) (K : PySem.W.Frag) : RC := fun vs H Q => ∃ (a : Addr) (ns : List Int), vs = [V.ref a] ∧ SqT K H a (ns.map V.int) ∧ ns.length < 60 ∧
  ∀ (p : Addr) (c : Nat), H p = none → (∃ ks : List Int, ks.Nodup ∧ (∀ k, k ∈ ks ↔ k ∈ ns) ∧ ks.length = c) → c ≤ ns.length → Q (.ref p) (upd H p (SetO w p (fun j => decide (j ∈ ns)) c))
def rLenS' (w : World) : RC := fun vs H Q => ∃ (a : Addr) (S : Int → Bool) (n : Nat), vs = [V.ref a] ∧ H a = some (SetO w a S n) ∧ Q (.int n) H
end
/-! what the size of the set tells -/
theorem lt_unique : ∀ {as bs : List Int}, as.Pairwise (· < ·) → bs.Pairwise (· < ·) → (∀ k, k ∈ as ↔ k ∈ bs) → as = bs
  | [], [], _, _, _ => rfl
  | [], b :: bs, _, _, h => by have := (h b).mpr (by simp); cases this
  | a :: as, [], _, _, h => by have := (h a).mp (by simp); cases this
  | a :: as, b :: bs, ha, hb, h => by
    obtain ⟨a1, a2⟩ := List.pairwise_cons.mp ha
    obtain ⟨b1, b2⟩ := List.pairwise_cons.mp hb
    have e : a = b := by
      rcases List.mem_cons.mp ((h a).mp (by simp)) with h1 | h1
      · exact h1
      · rcases List.mem_cons.mp ((h b).mpr (by simp)) with h2 | h2
        · exact h2.symm
        · have := b1 a h1; have := a1 b h2; omega
    subst e
    rw [lt_unique a2 b2 (fun k => ?_)]
    constructor
    · intro hk
      rcases List.mem_cons.mp ((h k).mp (List.mem_cons_of_mem _ hk)) with h1 | h1
      · have := a1 k hk; omega
      · exact h1
    · intro hk
      rcases List.mem_cons.mp ((h k).mpr (List.mem_cons_of_mem _ hk)) with h1 | h1
      · have := b1 k hk; omega
      · exact h1
end Pv
namespace Pv
open PySem PySem.Spec PyProof.Rows L2
/-! calls with keywords, where an error may come out -/
def tCallNS (n m : Nat) (sp : Sp) (gV : List V → List V → List V) (E : L2.St → XK) (t tk : TA) : TE := fun σ H Q => t σ H fun vs H1 => tk σ H1 fun zs H2 => vs.length = n ∧ zs.length = m ∧ sp (gV vs zs) H2 Q (E σ)
section
variable {X : Cx} {CX : CXT} {k n : Nat} {f : Addr} {fd : FuncData} {ps ks : List Str} {sp : Sp} {E : L2.St → XK} {x : Str} {p pos : Pos} {e : Expr} {es : List Expr} {kws : List Keyword} {t tk : TA} {g : List Value → List Value → List Value} {gV : List V → List V → List V}
end
end Pv
namespace Pv
open PySem PySem.Spec PyProof.Rows L2
/-! own classes: len(o), str(o), o == p; methods that raise, methods with keyword-only defaults; except with a tuple of classes -/
section
variable {X : Cx} {CX : CXT} {n k : Nat} {f C : Addr} {fd : FuncData} {ps ks : List Str} {sp : Sp} {E : XK} {ES : L2.St → XK}
/-- len(o) -/
def rLenOwn (C : Addr) (sp : Sp) (E : XK) : List V → Hp → VK → Prop := fun xs H Q => ∃ a dx fs, xs = [V.ref a] ∧ H a = some (.ins C dx fs) ∧ sp [.ref a] H (fun z H' => ∃ i : Int, z = .int i ∧ 0 ≤ i ∧ i < 2 ^ 63 ∧ Q z H') E
/-- str(o) -/
def rStrOwn (C : Addr) (sp : Sp) (E : XK) : List V → Hp → VK → Prop := fun xs H Q => ∃ a dx fs, xs = [V.ref a] ∧ H a = some (.ins C dx fs) ∧ sp [.ref a] H (fun z H' => ∃ t, z = .str t ∧ Q z H') E
/-- o == p -/
def rEqOwn (C : Addr) (sp : Sp) (E : XK) : R2 := fun x y H Q => ∃ a dx fs b dy gs, x = .ref a ∧ y = .ref b ∧ H a = some (.ins C dx fs) ∧ H b = some (.ins C dy gs) ∧ sp [x, y] H Q E
end
end Pv
namespace Pv
open PySem PySem.Spec PyProof.Rows L2
/-! except with a tuple of three classes -/
def wTup (K : PySem.W.Frag) (cs : List Value) (ts : Addr → Value → Option Addr → TS) (Wo : WX) (D : Ends) : WX := fun cls d σ H =>
  ∃ b, PySem.W.exmAny K cls cs = some b ∧ (b = true → ∀ a, H a = none → ts a cls d D σ H) ∧ (b = false → Wo cls d σ H)
section
variable {X : Cx} {x1 x2 x3 : Str} {c1 c2 c3 : Value} {body su : List Stmt} {s₀ : Stmt} {p1 p2 p3 pt ph po : Pos} {kk : Nat} {tb : WX → TS} {ts : Addr → Value → Option Addr → TS} {Wo : WX}
end
end Pv
namespace Pv
open PySem PySem.Spec PyProof.Rows L2
/-! methods where an error may come out; methods with keyword-only defaults -/
def tMethW (C : Addr) (m : Str) (sp : Sp) (E : L2.St → XK) (ta : TE) (t : TA) : TE := fun σ H Q => ta σ H fun x H1 => ∃ a dx fs, x = .ref a ∧ H1 a = some (.ins C dx fs) ∧ fs.lookup m = none ∧ t σ H1 fun vs H2 => sp (x :: vs) H2 Q (E σ)
/-- n: how many values, self among them; m keywords -/
def tMethN (C : Addr) (mn : Str) (n m : Nat) (sp : Sp) (gV : List V → List V → List V) (E : L2.St → XK) (ta : TE) (t tk : TA) : TE := fun σ H Q => ta σ H fun x H1 => ∃ a dx fs, x = .ref a ∧ H1 a = some (.ins C dx fs) ∧ fs.lookup mn = none ∧ t σ H1 fun vs H2 => tk σ H2 fun zs H3 => vs.length + 1 = n ∧ zs.length = m ∧ sp (gV (x :: vs) zs) H3 Q (E σ)
section
variable {X : Cx} {CX : CXT} {k n : Nat} {f C : Addr} {fd : FuncData} {ps ks : List Str} {sp : Sp} {E : L2.St → XK} {m : Str} {apos pos : Pos} {o e : Expr} {es : List Expr} {kws : List Keyword} {ta : TE} {t tk : TA} {g : List Value → List Value → List Value} {gV : List V → List V → List V} {pl : Sem Bool}
end
end Pv
namespace Pv
open PySem PySem.Spec PyProof.Rows L2
/-! defs whose errors have no context -/
theorem fly_imp {B : Heap} {l : List Env} {a : Addr} {Z Y : Obj → Prop} {h : Heap} (m : ∀ o, Z o → Y o) (f : HandSPX.FlyingZ B l a Z h) : HandSPX.FlyingZ B l a Y h := L2H.flyingZ_imp m f
/-- an error without a context is an error -/
theorem FnOk.weak {P : Program} {w : World} {K : PySem.W.Frag} {mg : Str → Option Value} {base : Heap} {k : Nat} {f : Addr} {fd : FuncData} {ps : List Str} {sp : Sp} (F : FnOk P w K mg base (L2N.CX P w) k f fd ps sp) : FnOk P w K mg base (L2.CX P w) k f fd ps sp :=
  ⟨F.len, fun A outer s H us vs xs Q E hr he hb hp hs => codeAny_mono (F.run A outer s H us vs xs Q E hr he hb hp hs) fun r s' hq => by
    cases r with
    | ok fl => cases fl <;> exact hq
    | error e =>
      obtain ⟨a, B, H', cls, d, e1, fl, hok, ub, na, os, ag, hE⟩ := hq
      exact ⟨a, B, H', cls, d, e1, fly_imp (fun o z => z.zc) fl, hok, ub, na, os, ag, hE⟩⟩
section
variable {P : Program} {w : World} {K : PySem.W.Frag} {mg : Str → Option Value} {base : Heap}
theorem okN {x qual : Str} {st : Stmt} {f : Addr} {fd : FuncData} {N ps : List Str} {k : Nat} {sp : Sp} (F : Fun K x qual st f fd) (S : FnScope N ps (defScope st)) (ln : ∀ vs H Q E, sp vs H Q E → vs.length = ps.length)
    (hbd : ∀ (cdv : Value) (A : Around) (outer : List Env) (s : Shared) (H : Hp) (vs : List V) (Q : VK) (E : XK), Room k (A.deeper (envOfC qual (defScope st) s.heap.objs.size f cdv)) → sp vs H Q E → ∃ t, PSs (cxOf (L2N.CX P w) P w K mg base N qual (defScope st) f cdv A outer s H E) (defBody st) t ∧ t { nx := fun _ H' => Q .non H', rt := Q } (L2.start N vs) H) : FnOk P w K mg base (L2N.CX P w) (k + 1) f fd ps sp := by
  obtain ⟨oc, od, kV, dc, pm, an, cdv, ct, osl, rfl, lk, hcd⟩ := F.ex
  exact fn_of lk hcd S ln fun A outer s H vs Q E hr hs => hbd cdv A outer s H vs Q E hr hs
end
theorem pmk_oexN {X : Cx} {CX : CXT} {x : Str} {e : Expr} {es : List Expr} {ta : TA} {p pos : Pos} {C fI : Addr} {k : Nat} {fd : FuncData} {ps : List Str} {sp : Sp} (T : OexC X.K C) (iC : PySem.W.findIn X.K (.ref C) "__init__" = some (some (.ref fI))) (tI : PySem.W.typeIn X.K (.ref fI) = some (.type "function")) (F1 : FnOk X.prog X.w X.K X.mg X.base CX k fI fd ps sp) (hr : Room (k + 1) X.A)
    (hb : Binds X.K fd ps []) (_hd : Vals ([] : List V) ([] : List Value)) (hx : Passes CX X (fun _ _ _ => False)) (hg : Gl X x) (hm : X.mg x = some (.ref C)) (ha : PA X (e :: es) ta)
    (hdb : (x == ("__debug__" : Str)) = false := by decide) (he : starEach (e :: es) X.env = (false, eval e X.env) :: starEach es X.env := by rfl) (hpl : (backTo pos (starEach es X.env)).any (·.1) = false := by rfl) : L2N.PMk X (.Call (.Name x p) (e :: es) [] pos) (tMkO C sp [] ta) := by
  intro pins s σ H Q I h
  obtain ⟨nm, q, N, bs, bm, sn, sub, ab, col, dd, k0, k1, k2, k3, k5, hC, hbm⟩ := T.cls
  refine wpAny_Call_Name_kw (ld_glob I hg hm (PySem.W.callWith_K (h₀ := X.base) I.ok.mod.kin T.kC (thn (ha.run pos pins s σ H _ I h) fun us s1 ⟨vs, H1, I1, r1, hz, q1⟩ => ⟨I1.kIn, ?_⟩) he hpl) hdb)
  obtain ⟨h0, g, dr, tk, os⟩ := s1
  have le : h0.objs.size ≤ h0.objs.size + 1 := Nat.le_succ _
  have hq := q1 (h0.objs.size + 1) (I1.hok.fresh le)
  rw [List.append_nil] at hq
  have kk : ∀ b o, h0.get? b = some o → ((h0.push (PySem.W.kdv_tup us)).push (PySem.HandSPX.excO C h0.objs.size)).get? b = some o := fun b o z => Heap.get?_push_of_some _ (Heap.get?_push_of_some _ z)
  have I2 : Inv X pins σ (upd H1 (h0.objs.size + 1) (exo (h0.objs.size + 1) C none)) ⟨(h0.push (PySem.W.kdv_tup us)).push (PySem.HandSPX.excO C h0.objs.size), g, dr, tk, os⟩ := I1.laid (t' := tk) (a := h0.objs.size + 1) (o := exo (h0.objs.size + 1) C none) kk le (exo_ok (t1 := h0.objs.size) (by heap_get))
  have r2 : Vals (V.ref (h0.objs.size + 1) :: vs) (Value.ref (h0.objs.size + 1) :: us) := .cons rfl r1
  have hl : (Value.ref (h0.objs.size + 1) :: us ++ []).length = ps.length := by rw [List.append_nil, ← r2.length]; exact F1.len _ _ _ _ hq
  have b2 := hb _ (Value.ref (h0.objs.size + 1) :: us) I2.kIn hl
  rw [List.append_nil] at b2
  have hus : us.length ≤ sizeLine := by rw [← Paired.length r1, sizeLine_eq]; omega
  refine wpAny_call (PySem.HandSPX.call_own F.excBase_ValueError (fun Y => PySem.HandSPX.refsVE_contains Y bm hbm) (I1.kIn _ _ hC) (PySem.W.looks_findIn I1.kIn iC) (fun self => PySem.W.bind_fn I1.kIn self tI) hus (codeAny_mono (F1.run _ X.stack _ _ ⟨Value.ref (h0.objs.size + 1) :: us, []⟩ (Value.ref (h0.objs.size + 1) :: us) _ _ (fun _ _ _ => False) (hr.make C us []) (I2.env0.make C us []) b2 r2 hq) fun r s' hq' => ?_))
  cases r with
  | error z => exact hx pins σ _ _ z s' I2 hq'
  | ok fl =>
    cases fl with
    | ret u =>
      obtain ⟨v, H2, os2, bare2, un2, hok2, rv, ev, d, fs, ea, ed, hd1, q2⟩ := hq'
      subst ev
      obtain ⟨h2, g2, d2, t2, os'⟩ := s'
      obtain ⟨t0, G, J, kG, ge, hoe, na⟩ := mk_end0 (d2 := d2) (t2 := t2) I1 le kk un2 hok2 os2 bare2 ea ed hd1
      exact ⟨rv, h0.objs.size + 1, _, _, ⟨G, g2, d2, t2, os'⟩, _, .ref C, some d, rfl, J, kG, ge, hoe, ⟨rfl, rfl, fun _ z => by cases z; rfl⟩, rfl, rfl, na, rfl, bare2, raises_own T.exC T.tyC, q2⟩
    | next => exact hq'.elim
    | brk => exact hq'.elim
    | cont => exact hq'.elim
end Pv
set_option maxHeartbeats 2000000
namespace Pv
open PySem PySem.Spec PyProof.Rows L2
/-! while an error is handled: the end of a tuple's iterator, a tuple unpacked -/
section
variable {prog : Program} {w : World} {A : Around} {E : Value → Shared → Prop} {s : Shared}
theorem tupEndHot {it t x1 : Addr} {i : Nat} {items : Array Value} {Q : Option Value → Shared → Prop} (hot : HotX.HotAt A x1 s.heap) (hne : x1 ≠ it) (hit : IsTupIter s.heap it t i) (ht : IsTup s.heap t items) (hx : items[i]? = none)
    (hQ : ∀ h', Heap.ExtBut it s.heap h' → Q none { s with heap := h' }) : wpAny (model prog w) A (pyNext (.ref it)) Q E s := by
  obtain ⟨o, ho, hc, hd⟩ := id hit; obtain ⟨ol, hol, _, nl, hdl⟩ := ht; obtain ⟨hh, o1, vs1, h1, d1, c1⟩ := hot
  unfold pyNext; refine wpAny_bind (wpAny_attempt (wpAny_callSpecial?_slot (name := Str.ofString "__next__") hit.typeIs slot_tupleiter_next (wpAny_call_entry slot_tupleiter_next hit.typeIs entry_tupleiter_next ?_ (args_tupleiter_next _))))
  show wpAny _ _ (field (.ref it) 0 >>= _) _ _ s; refine wpAny_bind (wpAny_field ho hd (x := .ref t) rfl ?_)
  show wpAny _ _ (if (Value.ref t == Value.none) = true then _ else _) _ _ s; rw [if_neg (show ¬ ((Value.ref t == Value.none) = true) from Bool.false_ne_true)]
  show wpAny _ _ (field (.ref it) 1 >>= _) _ _ s; refine wpAny_bind (wpAny_field ho hd (x := .int i 0) rfl ?_)
  show wpAny _ _ (seqItems? (.ref t) >>= _) _ _ s; refine wpAny_bind (wpAny_seqItems hol hdl ?_); simp only [Int.toNat_natCast, hx]
  refine wpAny_bind (wpAny_rule (wpAny_bind (wpAny_setField ho hd (by simp) ?_))); show wpAny _ _ (newExc (.type "StopIteration") [] >>= _) _ _ _
  have hs := Heap.SameBut.update (a := it) (h := s.heap) (f := Obj.mapFields (·.setIfInBounds 0 .none))
  refine wpAny_bind ?_; simp only [newExc, newTuple]
  refine wpAny_bind (wpAny_newObj_type (wpAny_bind (m := firstArgMember _ _) (wpAny_of_eq (a := Value.none) (by first | rfl | (simp only [firstArgMember]; rfl)) (wpAny_newObj_type ?_ (by size_fits)))) (by size_fits))
  have g1 : (s.heap.update it (Obj.mapFields (·.setIfInBounds 0 .none))).get? x1 = some o1 := by rw [Heap.get?_update_other _ _ hne.symm]; exact h1
  refine HotX.raiseNew_hot ⟨hh, o1, vs1, Heap.get?_push_of_some _ (Heap.get?_push_of_some _ g1), d1, c1⟩ (Nat.ne_of_lt (Heap.lt_size (Heap.get?_push_of_some _ g1))) (Heap.get?_push_size _ rfl) rfl (by first | (simp; done) | (simp; omega) | (simp only [Array.size_append]; simp; omega)) ?_
  refine wpAny_bind (wpAny_isInstance (T := "StopIteration") (b := true) ⟨_, Heap.get?_update_self _ (Heap.get?_push_size _ rfl) rfl, rfl⟩ isSubtype_stop (wpAny_pure (hQ _ fun b o hb e => ?_)))
  have e1 : (s.heap.update it (Obj.mapFields (·.setIfInBounds 0 .none))).get? b = some o := by rw [Heap.get?_update_other _ _ (Ne.symm hb)]; exact e
  rw [Heap.get?_update_other _ _ (Nat.ne_of_gt (Heap.lt_size (Heap.get?_push_of_some _ e1)))]; exact Heap.get?_push_of_some _ (Heap.get?_push_of_some _ e1)
theorem unpackHot {t x1 : Addr} {items : Array Value} {Q : List Value → Shared → Prop} (hot : HotX.HotAt A x1 s.heap) (ht : IsTup s.heap t items) (hQ : ∀ h', Heap.ExtBut s.heap.objs.size s.heap h' → Q items.toList { s with heap := h' }) : wpAny (model prog w) A (unpackItems (.ref t) items.size none) Q E s := by
  have hlt : t ≠ s.heap.objs.size := by obtain ⟨o, ho, _⟩ := ht; exact Nat.ne_of_lt (Heap.lt_size ho)
  obtain ⟨hh, o1, vs1, h1, d1, c1⟩ := hot
  have hx1 : x1 ≠ s.heap.objs.size := Nat.ne_of_lt (Heap.lt_size h1)
  unfold unpackItems; refine wpAny_bind ?_; unfold notIterableAtAll
  refine wpAny_bind (wpAny_specialOf ht.typeIs slot_tuple_iter.lookup (wpAny_pure ?_)); simp only [Bool.false_eq_true, if_false]
  refine wpAny_bind (wpAny_holding (iter_tuple ht (wpAny_bind (wpAny_holding (draw_tuple hlt items.size 0 _ _ ⟨_, Heap.get?_push_size _ rfl, rfl, rfl⟩ (ht.push _) (by omega) fun g1 hit1 hs1 => ?_)))))
  rw [show List.take items.size (List.drop 0 items.toList) = items.toList by rw [List.drop_zero]; exact List.take_of_length_le (by simp)]; rw [if_neg (by simp)]
  refine wpAny_bind (wpAny_holding (tupEndHot ⟨hh, o1, vs1, hs1.extBut x1 o1 hx1 (Heap.get?_push_of_some _ h1), d1, c1⟩ hx1 hit1 ((ht.push _).extBut hs1.extBut hlt) (by simp) fun g2 he2 => ?_))
  simp only [Option.isSome_none, Bool.false_eq_true, if_false]
  exact wpAny_pure (hQ g2 fun b o hb e => he2 b o hb (hs1.extBut b o hb (Heap.get?_push_of_some _ e)))
end
end Pv
set_option maxHeartbeats 2000000
namespace Pv
open PySem PySem.Spec PyProof.Rows L2
/-! while an error is handled: what an iterator draws at its end -/
/-- x1 is handled, its object is o1, without a context -/
structure HotO (A : Around) (x1 : Addr) (o1 : Obj) : Prop where
  hd : A.handled = some (.ref x1)
  fld : ∃ vs : Array Value, o1.data = .fields vs ∧ vs[2]? = some .none
theorem HotO.at {A : Around} {x1 : Addr} {o1 : Obj} {h : Heap} (c : HotO A x1 o1) (e : h.get? x1 = some o1) : HotX.HotAt A x1 h :=
  let ⟨vs, d, z⟩ := c.fld
  ⟨c.hd, o1, vs, e, d, z⟩
theorem HotO.in1 {A : Around} {x1 : Addr} {o1 : Obj} (c : HotO A x1 o1) : HotO A.in1 x1 o1 := ⟨c.hd, c.fld⟩
section
variable {prog : Program} {w : World} {A : Around} {E : Value → Shared → Prop} {s : Shared}
/-- a StopIteration that a builtin raises -/
theorem stopHot {α : Type} {x1 : Addr} {Q : α → Shared → Prop} (hot : HotX.HotAt A x1 s.heap)
    (hE : ∀ h' e, (∀ b o, s.heap.get? b = some o → h'.get? b = some o) → (∃ o, h'.get? e = some o ∧ o.cls = .type "StopIteration") → E (.ref e) { s with heap := h' }) :
    wpAny (model prog w) A (newExc (.type "StopIteration") [] >>= fun v => (raiseNew v : Sem α)) Q E s := by
  obtain ⟨hh, o1, vs1, h1, d1, c1⟩ := hot
  refine wpAny_bind ?_
  simp only [newExc, newTuple]
  refine wpAny_bind (wpAny_newObj_type (wpAny_bind (m := firstArgMember _ _) (wpAny_of_eq (a := Value.none) (by first | rfl | (simp only [firstArgMember]; rfl)) (wpAny_newObj_type ?_ (by size_fits)))) (by size_fits))
  have k2 : ∀ b o, s.heap.get? b = some o → _ := fun b o e => Heap.get?_push_of_some { cls := .type "StopIteration", data := .fields (#[Value.ref s.heap.objs.size, .none, .none, .none, .bool false, .none] ++ ownMembersOf (.type "StopIteration") []) } (Heap.get?_push_of_some { cls := .type "tuple", data := .seq ([] : List Value).toArray } e)
  refine HotX.raiseNew_hot ⟨hh, o1, vs1, k2 _ _ h1, d1, c1⟩ (Nat.ne_of_lt (Heap.lt_size (Heap.get?_push_of_some _ h1))) (Heap.get?_push_size _ rfl) rfl (by first | (simp; done) | (simp; omega) | (simp only [Array.size_append]; simp; omega)) ?_
  refine hE _ _ (fun b o e => ?_) ⟨_, Heap.get?_update_self _ (Heap.get?_push_size _ rfl) rfl, rfl⟩
  rw [Heap.get?_update_other _ _ (Nat.ne_of_gt (Heap.lt_size (Heap.get?_push_of_some _ e)))]
  exact k2 b o e
theorem stop_ok {e : Addr} {Q : Option Value → Shared → Prop} (he : ∃ o, s.heap.get? e = some o ∧ o.cls = .type "StopIteration") (q : Q none s) :
    wpAny (model prog w) A (isInstance (.ref e) (.type "StopIteration") >>= fun b => if b = true then pure none else throw (.ref e)) Q E s :=
  let ⟨o, ho, hc⟩ := he
  wpAny_bind (wpAny_isInstance (T := "StopIteration") (b := true) ⟨o, ho, hc⟩ isSubtype_stop (wpAny_pure q))
theorem listOutHot {it l x1 : Addr} {i : Nat} {items : Array Value} {Q : Value → Shared → Prop} (hot : HotX.HotAt A x1 s.heap) (hne : x1 ≠ it) (hit : s.heap.IsListIter it l i) (hl : s.heap.IsList l items) (hx : items[i]? = none)
    (hE : ∀ h' e, Heap.ExtBut it s.heap h' → (∃ o, h'.get? e = some o ∧ o.cls = .type "StopIteration") → E (.ref e) { s with heap := h' }) : wpAny (model prog w) A (Builtin.SmallTypes.nextOf (.ref it)) Q E s := by
  obtain ⟨o, ho, hc, hd⟩ := id hit; obtain ⟨ol, hol, _, nl, hdl⟩ := hl; obtain ⟨hh, o1, vs1, h1, d1, c1⟩ := hot
  unfold Builtin.SmallTypes.nextOf; refine wpAny_bind (wpAny_callSpecial?_slot (name := Str.ofString "__next__") hit.typeIs slot_listiter_next (wpAny_call_entry slot_listiter_next hit.typeIs entry_listiter_next ?_ (args_listiter_next _)))
  show wpAny _ _ (field (.ref it) 0 >>= _) _ _ s; refine wpAny_bind (wpAny_field ho hd (x := .ref l) rfl ?_)
  show wpAny _ _ (if (Value.ref l == Value.none) = true then _ else _) _ _ s; rw [if_neg (show ¬ ((Value.ref l == Value.none) = true) from Bool.false_ne_true)]
  show wpAny _ _ (field (.ref it) 1 >>= _) _ _ s; refine wpAny_bind (wpAny_field ho hd (x := .int i 0) rfl ?_)
  show wpAny _ _ (seqItems? (.ref l) >>= _) _ _ s; refine wpAny_bind (wpAny_seqItems hol hdl ?_); simp only [Int.toNat_natCast, hx]
  refine wpAny_bind (wpAny_rule (wpAny_bind (wpAny_setField ho hd (by simp) ?_)))
  have hs := Heap.SameBut.update (a := it) (h := s.heap) (f := Obj.mapFields (·.setIfInBounds 0 .none))
  refine stopHot (s := { s with heap := s.heap.update it (Obj.mapFields (·.setIfInBounds 0 .none)) }) ⟨hh, o1, vs1, by show (s.heap.update it _).get? x1 = _; rw [Heap.get?_update_other _ _ hne.symm]; exact h1, d1, c1⟩ fun h' e k he => ?_
  exact hE h' e (fun b ob hb eb => k b ob (by show (s.heap.update it _).get? b = _; rw [Heap.get?_update_other _ _ (Ne.symm hb)]; exact eb)) he
theorem tupOutHot {it t x1 : Addr} {i : Nat} {items : Array Value} {Q : Value → Shared → Prop} (hot : HotX.HotAt A x1 s.heap) (hne : x1 ≠ it) (hit : s.heap.IsTupleIter it t i) (ht : s.heap.IsTuple t items) (hx : items[i]? = none)
    (hE : ∀ h' e, Heap.ExtBut it s.heap h' → (∃ o, h'.get? e = some o ∧ o.cls = .type "StopIteration") → E (.ref e) { s with heap := h' }) : wpAny (model prog w) A (Builtin.SmallTypes.nextOf (.ref it)) Q E s := by
  obtain ⟨o, ho, hc, hd⟩ := id hit; obtain ⟨ol, hol, _, nl, hdl⟩ := ht; obtain ⟨hh, o1, vs1, h1, d1, c1⟩ := hot
  unfold Builtin.SmallTypes.nextOf; refine wpAny_bind (wpAny_callSpecial?_slot (name := Str.ofString "__next__") hit.typeIs F.slot_tuple_iterator_next (wpAny_call_entry F.slot_tuple_iterator_next hit.typeIs F.entry_tuple_iterator_next ?_ (F.args_tuple_iterator_next_1 _)))
  show wpAny _ _ (field (.ref it) 0 >>= _) _ _ s; refine wpAny_bind (wpAny_field ho hd (x := .ref t) rfl ?_)
  show wpAny _ _ (if (Value.ref t == Value.none) = true then _ else _) _ _ s; rw [if_neg (show ¬ ((Value.ref t == Value.none) = true) from Bool.false_ne_true)]
  show wpAny _ _ (field (.ref it) 1 >>= _) _ _ s; refine wpAny_bind (wpAny_field ho hd (x := .int i 0) rfl ?_)
  show wpAny _ _ (seqItems? (.ref t) >>= _) _ _ s; refine wpAny_bind (wpAny_seqItems hol hdl ?_); simp only [Int.toNat_natCast, hx]
  refine wpAny_bind (wpAny_rule (wpAny_bind (wpAny_setField ho hd (by simp) ?_)))
  refine stopHot (s := { s with heap := s.heap.update it (Obj.mapFields (·.setIfInBounds 0 .none)) }) ⟨hh, o1, vs1, by show (s.heap.update it _).get? x1 = _; rw [Heap.get?_update_other _ _ hne.symm]; exact h1, d1, c1⟩ fun h' e k he => ?_
  exact hE h' e (fun b ob hb eb => k b ob (by show (s.heap.update it _).get? b = _; rw [Heap.get?_update_other _ _ (Ne.symm hb)]; exact eb)) he
/-- the same for a loop's own drawing -/
theorem listEndHot {it l x1 : Addr} {i : Nat} {items : Array Value} {Q : Option Value → Shared → Prop} (hot : HotX.HotAt A x1 s.heap) (hne : x1 ≠ it) (hit : s.heap.IsListIter it l i) (hl : s.heap.IsList l items) (hx : items[i]? = none)
    (hQ : ∀ h', Heap.ExtBut it s.heap h' → Q none { s with heap := h' }) : wpAny (model prog w) A (pyNext (.ref it)) Q E s := by
  obtain ⟨o, ho, hc, hd⟩ := id hit; obtain ⟨ol, hol, _, nl, hdl⟩ := hl; obtain ⟨hh, o1, vs1, h1, d1, c1⟩ := hot
  unfold pyNext; refine wpAny_bind (wpAny_attempt (wpAny_callSpecial?_slot (name := Str.ofString "__next__") hit.typeIs slot_listiter_next (wpAny_call_entry slot_listiter_next hit.typeIs entry_listiter_next ?_ (args_listiter_next _))))
  show wpAny _ _ (field (.ref it) 0 >>= _) _ _ s; refine wpAny_bind (wpAny_field ho hd (x := .ref l) rfl ?_)
  show wpAny _ _ (if (Value.ref l == Value.none) = true then _ else _) _ _ s; rw [if_neg (show ¬ ((Value.ref l == Value.none) = true) from Bool.false_ne_true)]
  show wpAny _ _ (field (.ref it) 1 >>= _) _ _ s; refine wpAny_bind (wpAny_field ho hd (x := .int i 0) rfl ?_)
  show wpAny _ _ (seqItems? (.ref l) >>= _) _ _ s; refine wpAny_bind (wpAny_seqItems hol hdl ?_); simp only [Int.toNat_natCast, hx]
  refine wpAny_bind (wpAny_rule (wpAny_bind (wpAny_setField ho hd (by simp) ?_)))
  refine stopHot (s := { s with heap := s.heap.update it (Obj.mapFields (·.setIfInBounds 0 .none)) }) ⟨hh, o1, vs1, by show (s.heap.update it _).get? x1 = _; rw [Heap.get?_update_other _ _ hne.symm]; exact h1, d1, c1⟩ fun h' e k he => ?_
  exact stop_ok (s := { s with heap := h' }) he (hQ h' fun b ob hb eb => k b ob (by show (s.heap.update it _).get? b = _; rw [Heap.get?_update_other _ _ (Ne.symm hb)]; exact eb))
end
end Pv
set_option maxHeartbeats 2000000
namespace Pv
open PySem PySem.Spec PyProof.Rows L2
/-! while an error is handled: loops -/
/-- in X's context x1 is handled; its object o1 stands, untracked -/
structure HotS (X : Cx) (x1 : Addr) (o1 : Obj) : Prop where
  c : HotO X.A x1 o1
  at_ : ∀ {pins : List (Addr × Obj)} {σ : L2.St} {H : Hp} {s : Shared}, Inv X pins σ H s → s.heap.get? x1 = some o1 ∧ H x1 = none ∧ x1 ≠ X.env.locals
  nofs : x1 ∉ X.fs
  noex : x1 ∉ X.ex
  old : x1 < X.s_0.heap.objs.size
theorem HotS.hot {X : Cx} {x1 : Addr} {o1 : Obj} {pins : List (Addr × Obj)} {σ : L2.St} {H : Hp} {s : Shared} (c : HotS X x1 o1) (I : Inv X pins σ H s) : HotX.HotAt X.A x1 s.heap := c.c.at (c.at_ I).1
theorem HotS.ne {X : Cx} {x1 b : Addr} {o1 : Obj} {pins : List (Addr × Obj)} {H : Hp} (c : HotS X x1 o1) (f : FpOk X pins H b) : x1 ≠ b := by
  rintro rfl
  rcases f.2.2.2.1 with z | z
  · exact c.noex z
  · exact absurd c.old (Nat.not_lt_of_le z)
theorem hotS_fn {CX : CXT} {P : Program} {w : World} {K : PySem.W.Frag} {mg : Str → Option Value} {base : Heap} {N : List Str} {qual : Str} {scope : Scope} {f : Addr} {cd : Value} {A : Around} {outer : List Env} {s : Shared} {H : Hp} {E : XK} {p : Addr × Obj}
    (h1 : L2H.Hot1 A p) (hp : L2H.PinOk outer H s p) : HotS (L2H.cxH CX P w K mg base N qual scope f cd A outer s H E p) p.1 p.2 where
  c := ⟨h1.1, h1.2⟩
  at_ := fun {pins σ H s} I => by
    obtain ⟨e, n, nl, _, _⟩ := I.pin p (List.mem_append_left _ (by show p ∈ [p]; simp))
    exact ⟨e, n, nl⟩
  nofs := hp.nofs
  noex := fun z => absurd (show p.1 ∈ ([] : List Addr) from z) (by simp)
  old := Heap.lt_size hp.get
theorem hotS_blk {X : Cx} {x1 : Addr} {o1 : Obj} {pins : List (Addr × Obj)} {σ : L2.St} {H : Hp} {s : Shared} {scope : Scope} {cenv : Env} {fp : List Addr} (c : HotS X x1 o1) (I : Inv X pins σ H s) (hf : ∀ b ∈ fp, FpOk X pins H b) (hl : s.heap.objs.size ≤ cenv.locals) : HotS (X.blk s H scope cenv fp) x1 o1 := by
  obtain ⟨e, n, nl⟩ := c.at_ I
  have nf : x1 ∉ frs X.stack := fun z => by
    rcases List.mem_cons.mp (I.stkSub x1 z) with z | z
    · exact nl z
    · exact c.nofs z
  have nx : x1 ∉ fp := fun z => c.ne (hf x1 z) rfl
  exact ⟨c.c, fun {pins' σ' H' s'} J => ⟨J.base.keep x1 o1 e n nf nx, J.base.free x1 o1 e n nx, fun z => absurd (Heap.lt_size e) (by rw [z]; exact Nat.not_lt_of_le hl)⟩, nf, nx, Heap.lt_size e⟩
/-- what an iterator does in such a context -/
structure TurnW (P : Program) (w : World) (K : PySem.W.Frag) (tg : Expr) (J : It) (fp : List Addr) (it : Addr) (tn : Nat → Heap → Prop) : Prop where
  mem : it ∈ fp
  obj : ∀ i h, tn i h → ∀ b ∈ fp, ∃ o, h.get? b = some o ∧ ∀ v, o.data ≠ .cell v
  keep : ∀ i h h', tn i h → (∀ b ∈ fp, ∀ o, h.get? b = some o → h'.get? b = some o) → tn i h'
  item : ∀ (X : Cx) (x1 : Addr) (o1 : Obj), X.prog = P → X.w = w → X.K = K → HotS X x1 o1 → ∀ {i : Nat} {pins : List (Addr × Obj)} {s : Shared} {σ : L2.St} {H : Hp} {E : Value → Shared → Prop}, Inv X pins σ H s → (∀ b ∈ fp, FpOk X pins H b) → tn i s.heap → J.go i H →
    wpAny (model P w) X.A (pyNext (.ref it)) (fun r s1 => ∃ u, r = some u ∧ wpAny (model P w) X.A (letOwnedTupleGo tg (.ref it) u) (fun _ s2 => ∃ x H', Inv X pins σ H' s2 ∧ RelV x u ∧ J.yld i H x H' ∧ tn (i + 1) s2.heap ∧ ∀ b ∈ fp, H' b = none) E s1) E s
  done : ∀ (X : Cx) (x1 : Addr) (o1 : Obj), X.prog = P → X.w = w → X.K = K → HotS X x1 o1 → ∀ {i : Nat} {pins : List (Addr × Obj)} {s : Shared} {σ : L2.St} {H : Hp} {E : Value → Shared → Prop}, Inv X pins σ H s → (∀ b ∈ fp, FpOk X pins H b) → tn i s.heap → J.stop i H →
    wpAny (model P w) X.A (pyNext (.ref it)) (fun r s1 => r = none ∧ Inv X pins σ H s1) E s
  self : ∀ (A : Around) {i : Nat} {s : Shared} {Q : Value → Shared → Prop} {E : Value → Shared → Prop}, tn i s.heap → Q (.ref it) s → wpAny (model P w) A (pyIter (.ref it)) Q E s
section
variable {P : Program} {w : World} {K : PySem.W.Frag} {tg : Expr}
theorem turnW_list (a it : Addr) : TurnW P w K tg (Itl K a) [it] it (fun i h => h.IsListIter it a i) where
  mem := List.mem_singleton.mpr rfl
  obj := fun i h ⟨o, e, _, d⟩ b hb => by
    cases List.mem_singleton.mp hb
    exact ⟨o, e, fun v z => by rw [d] at z; cases z⟩
  keep := fun _ _ _ st k => st.at (k it (List.mem_singleton.mpr rfl))
  item := by
    rintro X x1 o1 rfl rfl rfl hc i pins s σ H E I hf st ⟨xs, x, hq, hx⟩
    obtain ⟨its, rv, p, _⟩ := I.list hq
    obtain ⟨u, hu, ru⟩ := rv.get hx
    obtain ⟨f0, f1, f2, f3, f4, f5⟩ := hf it (List.mem_singleton.mpr rfl)
    refine wpAny_pyNext_list_item st p.isList (x := u) (by simpa using hu) fun h' st' sb => ⟨u, rfl, ?_⟩
    obtain ⟨o, e, c, d⟩ := id st'
    exact go_of (s := { s with heap := h' }) e c d (by decide) ⟨x, H, I.turned (t' := s.toks) (fun b ob hb eb => (sb.2 b hb).trans eb) f0 f1 f3 f4 f5, ru, ⟨rfl, fun ys hy => (I.list_inj hy hq) ▸ hx⟩, st', fun b hb => (hf b hb).1⟩
  done := by
    rintro X x1 o1 rfl rfl rfl hc i pins s σ H E I hf st ⟨xs, hq, hx⟩
    obtain ⟨its, rv, p, _⟩ := I.list hq
    have fi := hf it (List.mem_singleton.mpr rfl)
    obtain ⟨f0, f1, f2, f3, f4, f5⟩ := id fi
    have hl := rv.length
    exact listEndHot (hc.hot I) (hc.ne fi) st p.isList (by simp; omega) fun h' eb => ⟨rfl, I.turned (t' := s.toks) (fun b ob hb e => eb b ob hb e) f0 f1 f3 f4 f5⟩
  self := fun A {i s Q E} st h => wpAny_pyIter_listiter st h
theorem turnW_tup (a it : Addr) : TurnW P w K tg (Itt K a) [it] it (fun i h => h.IsTupleIter it a i) where
  mem := List.mem_singleton.mpr rfl
  obj := fun i h ⟨o, e, _, d⟩ b hb => by
    cases List.mem_singleton.mp hb
    exact ⟨o, e, fun v z => by rw [d] at z; cases z⟩
  keep := fun _ _ _ st k => st.at (k it (List.mem_singleton.mpr rfl))
  item := by
    rintro X x1 o1 rfl rfl rfl hc i pins s σ H E I hf st ⟨xs, x, hq, hx⟩
    obtain ⟨its, rv, p, _⟩ := I.tuple hq
    obtain ⟨u, hu, ru⟩ := rv.get hx
    obtain ⟨f0, f1, f2, f3, f4, f5⟩ := hf it (List.mem_singleton.mpr rfl)
    refine wpAny_pyNext_tuple_item st (show s.heap.IsTuple a its.toArray from p) (x := u) (by simpa using hu) fun h' st' sb => ⟨u, rfl, ?_⟩
    obtain ⟨o, e, c, d⟩ := id st'
    exact go_of (s := { s with heap := h' }) e c d (by decide) ⟨x, H, I.turned (t' := s.toks) (fun b ob hb eb => (sb.2 b hb).trans eb) f0 f1 f3 f4 f5, ru, ⟨rfl, fun ys hy => (I.tuple_inj hy hq) ▸ hx⟩, st', fun b hb => (hf b hb).1⟩
  done := by
    rintro X x1 o1 rfl rfl rfl hc i pins s σ H E I hf st ⟨xs, hq, hx⟩
    obtain ⟨its, rv, p, _⟩ := I.tuple hq
    have fi := hf it (List.mem_singleton.mpr rfl)
    obtain ⟨f0, f1, f2, f3, f4, f5⟩ := id fi
    have hl := rv.length
    exact tupEndHot (hc.hot I) (hc.ne fi) st p (by simp; omega) fun h' eb => ⟨rfl, I.turned (t' := s.toks) (fun b ob hb e => eb b ob hb e) f0 f1 f3 f4 f5⟩
  self := fun A {i s Q E} st h => wpAny_pyIter_tupleiter st h
theorem turnW_range (it : Addr) (lo : Int) (n : Nat) : TurnW P w K tg (Itr lo n) [it] it (fun i h => IsRangeIter h it (lo + (i : Nat) * 1) ((n : Int) - (i : Nat)) 1) where
  mem := List.mem_singleton.mpr rfl
  obj := fun i h st b hb => by
    cases List.mem_singleton.mp hb
    exact ⟨_, st, fun v z => by
      have z' : Data.fields _ = Data.cell v := z
      cases z'⟩
  keep := fun _ _ _ st k => k it (List.mem_singleton.mpr rfl) _ st
  item := by
    rintro X x1 o1 rfl rfl rfl hc i pins s σ H E I hf st hg
    obtain ⟨f0, f1, f2, f3, f4, f5⟩ := hf it (List.mem_singleton.mpr rfl)
    have hlt : i < n := hg
    refine wpAny_pyNext_range_item st (by omega) fun h' st' sb => ⟨_, rfl, ?_⟩
    have st2 : IsRangeIter h' it (lo + ((i + 1 : Nat) : Int) * 1) ((n : Int) - ((i + 1 : Nat) : Int)) 1 := by
      rw [show lo + ((i + 1 : Nat) : Int) * 1 = lo + ((i : Nat) : Int) * 1 + 1 by omega, show (n : Int) - ((i + 1 : Nat) : Int) = (n : Int) - ((i : Nat) : Int) - 1 by omega]
      exact st'
    exact go_of (s := { s with heap := h', toks := s.toks + 1 }) (n := "range_iterator") st2 rfl rfl (by decide) ⟨.int (lo + i), H, I.turned (fun b o hb e => (sb.2 b hb).trans e) f0 f1 f3 f4 f5, ⟨s.toks, by rw [Int.mul_one]⟩, ⟨rfl, rfl⟩, st2, fun b hb => (hf b hb).1⟩
  done := by
    rintro X x1 o1 rfl rfl rfl hc i pins s σ H E I hf st hg
    obtain ⟨f0, f1, f2, f3, f4, f5⟩ := hf it (List.mem_singleton.mpr rfl)
    exact HotX.pyNext_range_end_hot (hc.hot I) st (by have : n ≤ i := hg; omega) fun h' eb => ⟨rfl, I.turned (t' := s.toks) (fun b o _ e => eb b o e) f0 f1 f3 f4 f5⟩
  self := fun A {i s Q E} st h => wpAny_pyIter_rangeiter st h
end
end Pv
set_option maxHeartbeats 2000000
namespace Pv
open PySem PySem.Spec PyProof.Rows L2
/-! enumerate and zip while an error is handled -/
section
variable {prog : Program} {w : World} {A : Around}
theorem drawsLW {x1 : Addr} {o1 : Obj} (c : HotO A x1 o1) (it l : Addr) (hne : l ≠ it) (hx : x1 ≠ it) (items : Array Value) :
    Draws prog w A it [it, l, x1] items.size (fun i v => items[i]? = some v) (fun i h => h.IsListIter it l i ∧ h.IsList l items ∧ h.get? x1 = some o1) where
  live := fun _ _ ⟨⟨o, e, _⟩, _⟩ => ⟨o, e⟩
  frame := fun _ _ _ ⟨a, b, d⟩ k => ⟨a.at fun o => k it (by simp) o, b.at fun o => k l (by simp) o, k x1 (by simp) _ d⟩
  item := fun i s Q E hi ⟨a, b, d⟩ hQ => wpAny_nextOf_list_item a b (x := items[i]) (by simp [hi]) fun h' a' sb => hQ _ h' s.toks (by simp [hi]) ⟨a', b.extBut sb.extBut hne, sb.extBut _ _ hx d⟩ sb
  done := fun s Q E ⟨a, b, d⟩ hE => listOutHot (c.at d) hx a b (by simp) hE
theorem drawsTW {x1 : Addr} {o1 : Obj} (c : HotO A x1 o1) (it l : Addr) (hne : l ≠ it) (hx : x1 ≠ it) (items : Array Value) :
    Draws prog w A it [it, l, x1] items.size (fun i v => items[i]? = some v) (fun i h => h.IsTupleIter it l i ∧ h.IsTuple l items ∧ h.get? x1 = some o1) where
  live := fun _ _ ⟨⟨o, e, _⟩, _⟩ => ⟨o, e⟩
  frame := fun _ _ _ ⟨a, b, d⟩ k => ⟨a.at fun o => k it (by simp) o, b.at fun o => k l (by simp) o, k x1 (by simp) _ d⟩
  item := fun i s Q E hi ⟨a, b, d⟩ hQ => wpAny_nextOf_tuple_item a b (x := items[i]) (by simp [hi]) fun h' a' sb => hQ _ h' s.toks (by simp [hi]) ⟨a', b.extBut sb.extBut hne, sb.extBut _ _ hx d⟩ sb
  done := fun s Q E ⟨a, b, d⟩ hE => tupOutHot (c.at d) hx a b (by simp) hE
/-- the same for loops -/
theorem walksLW {x1 : Addr} {o1 : Obj} (c : HotO A x1 o1) (I l : Addr) (hne : l ≠ I) (hx : x1 ≠ I) (items : Array Value) :
    Walks prog w A I [I, l, x1] [I] items.size (fun i v => items[i]? = some v) (fun i h => h.IsListIter I l i ∧ h.IsList l items ∧ h.get? x1 = some o1) where
  sub := fun b hb => by cases List.mem_singleton.mp hb; simp
  frame := fun _ _ _ ⟨a, b, d⟩ k => ⟨a.at fun o => k I (by simp) o, b.at fun o => k l (by simp) o, k x1 (by simp) _ d⟩
  item := fun i s Q E hi ⟨a, b, d⟩ hQ => wpAny_pyNext_list_item a b (x := items[i]) (by simp [hi]) fun h' a' sb => hQ _ h' s.toks (by simp [hi]) ⟨a', b.extBut sb.extBut hne, sb.extBut _ _ hx d⟩ fun q o hb e => sb.extBut q o (fun z => hb (by simp [z])) e
  done := fun s Q E ⟨a, b, d⟩ hQ => listEndHot (c.at d) hx a b (by simp) fun h' eb => hQ h' s.toks fun q o hb e => eb q o (fun z => hb (by simp [z])) e
  self := fun _ _ _ _ ⟨a, _, _⟩ hQ => wpAny_pyIter_listiter a hQ
theorem walksTW {x1 : Addr} {o1 : Obj} (c : HotO A x1 o1) (I l : Addr) (hne : l ≠ I) (hx : x1 ≠ I) (items : Array Value) :
    Walks prog w A I [I, l, x1] [I] items.size (fun i v => items[i]? = some v) (fun i h => h.IsTupleIter I l i ∧ h.IsTuple l items ∧ h.get? x1 = some o1) where
  sub := fun b hb => by cases List.mem_singleton.mp hb; simp
  frame := fun _ _ _ ⟨a, b, d⟩ k => ⟨a.at fun o => k I (by simp) o, b.at fun o => k l (by simp) o, k x1 (by simp) _ d⟩
  item := fun i s Q E hi ⟨a, b, d⟩ hQ => wpAny_pyNext_tuple_item a b (x := items[i]) (by simp [hi]) fun h' a' sb => hQ _ h' s.toks (by simp [hi]) ⟨a', b.extBut sb.extBut hne, sb.extBut _ _ hx d⟩ fun q o hb e => sb.extBut q o (fun z => hb (by simp [z])) e
  done := fun s Q E ⟨a, b, d⟩ hQ => tupEndHot (c.at d) hx a b (by simp) fun h' eb => hQ h' s.toks fun q o hb e => eb q o (fun z => hb (by simp [z])) e
  self := fun _ _ _ _ ⟨a, _, _⟩ hQ => wpAny_pyIter_tupleiter a hQ
end
theorem turnW_enumT {P : Program} {w : World} {K : PySem.W.Frag} {elts : List Expr} {kk : Nat} {tpos : Pos} (a e it : Addr) :
    TurnW P w K (.Tuple elts kk tpos) (IteT K a) [e, it] e (fun i h => (∃ old, IsEnum h e it ((i : Nat) : Int) old) ∧ h.IsTupleIter it a i ∧ e ≠ it) where
  mem := by simp
  obj := by
    rintro i h ⟨⟨old, he⟩, ⟨o, ho, hc, hd⟩, _⟩ b hb
    simp only [List.mem_cons, List.not_mem_nil, or_false] at hb
    rcases hb with rfl | rfl
    · exact ⟨_, he, fun v q => nomatch q⟩
    · exact ⟨o, ho, fun v q => by rw [hd] at q; cases q⟩
  keep := by
    rintro i h h' ⟨⟨old, he⟩, hi, hne⟩ k
    exact ⟨⟨old, k e (by simp) _ he⟩, hi.at fun o q => k it (by simp) o q, hne⟩
  item := by
    rintro X x1 o1 rfl rfl rfl hc i pins s σ H E I hf st hg
    have nx : x1 ≠ it := hc.ne (hf it (by simp))
    obtain ⟨⟨old, he⟩, hit, hne⟩ := st
    obtain ⟨xs, x, hq, hx⟩ := hg
    obtain ⟨its, rv, p, hz⟩ := I.tuple hq
    obtain ⟨u, hu, ru⟩ := rv.get hx
    have hel : e < s.heap.objs.size := Heap.lt_size he
    have hil : it < s.heap.objs.size := by obtain ⟨_, q, _⟩ := hit; exact Heap.lt_size q
    have nea : e ≠ a := by
      rintro rfl
      obtain ⟨o, ho, hcl, _⟩ := p
      rw [he] at ho
      cases ho
      injection hcl with hcl
      exact absurd hcl (by decide)
    have nia : a ≠ it := by
      rintro rfl
      obtain ⟨o, ho, hcl, _⟩ := p
      obtain ⟨o2, ho2, hcl2, _⟩ := hit
      rw [ho] at ho2
      cases ho2
      rw [hcl] at hcl2
      injection hcl2 with hcl2
      exact absurd hcl2 (by decide)
    have hlt : i < its.toArray.size := by have := (List.getElem?_eq_some_iff.mp hu).1; simpa using this
    refine wpAny_pyNext_enum_itemD (drawsTW hc.c.in1 it a nia nx its.toArray) he ⟨hit, p, (hc.at_ I).1⟩ hlt hne (by simp [hne, nea, Ne.symm (hc.ne (hf e (by simp)))]) ?_
    intro u' h' tk hu' ho st' hT hsz hk
    have hu2 : its.toArray[i]? = some u' := hu'
    have : u' = u := by
      have h3 : its.toArray[i]? = some u := by simpa using hu
      rw [h3] at hu2
      exact (Option.some.inj hu2).symm
    subst this
    refine ⟨_, rfl, wpAny_letOwnedTupleGo_enum (s := { s with heap := h', toks := tk + 1 }) ho fun h'' he' sb => ?_⟩
    have hT2 : h''.get? s.heap.objs.size = some { cls := .type "tuple", data := .seq #[.int i tk, u'] } := (sb.2 _ (Nat.ne_of_gt hel)).trans hT
    have new : ObjOk X.prog X.w (upd H s.heap.objs.size (.tup [.int (i : Nat), x])) h'' s.heap.objs.size (.tup [.int (i : Nat), x]) :=
      ⟨by show 2 ≤ sizeLine; decide, [.int i tk, u'], .cons ⟨_, rfl⟩ (.cons ru .nil), ⟨_, hT2, rfl, _, rfl⟩⟩
    have kk : ∀ b ob, b ∉ [e, it] → s.heap.get? b = some ob → h''.get? b = some ob := by
      intro b ob hb q
      have h1 : b ≠ e := fun z => hb (by simp [z])
      have h2 : b ≠ it := fun z => hb (by simp [z])
      exact (sb.2 b h1).trans (hk b ob h1 h2 q)
    have I1 : Inv X pins σ (upd H s.heap.objs.size (.tup [.int (i : Nat), x])) { s with heap := h'', toks := tk + 1 } :=
      I.turnedNew (ch := [e, it]) kk hf (Nat.le_refl _) new
    refine ⟨.ref s.heap.objs.size, _, I1, rfl, ⟨_, x, rfl, I.hok.fresh (Nat.le_refl _), rfl, fun ys hy => by rw [I.tuple_inj hy hq]; exact hx⟩, ⟨⟨u', ?_⟩, st'.1.at fun o q => (sb.2 it (Ne.symm hne)).trans q, hne⟩, fun b hb => ?_⟩
    · rw [show ((i + 1 : Nat) : Int) = (i : Int) + 1 by omega]; exact he'
    · have hb' : b < s.heap.objs.size := by
        simp only [List.mem_cons, List.not_mem_nil, or_false] at hb
        rcases hb with rfl | rfl <;> assumption
      rw [upd_ne (Nat.ne_of_lt hb')]
      exact (hf b hb).1
  done := by
    rintro X x1 o1 rfl rfl rfl hc i pins s σ H E I hf st hg
    have nx : x1 ≠ it := hc.ne (hf it (by simp))
    obtain ⟨⟨old, he⟩, hit, hne⟩ := st
    obtain ⟨xs, hq, hx⟩ := hg
    obtain ⟨its, rv, p, hz⟩ := I.tuple hq
    obtain ⟨f0, f1, f2, f3, f4, f5⟩ := hf it (by simp)
    have hl := rv.length
    have nia : a ≠ it := by
      rintro rfl
      obtain ⟨o, ho, hcl, _⟩ := p
      obtain ⟨o2, ho2, hcl2, _⟩ := hit
      rw [ho] at ho2
      cases ho2
      rw [hcl] at hcl2
      injection hcl2 with hcl2
      exact absurd hcl2 (by decide)
    have hi : i = its.toArray.size := by rw [List.size_toArray]; omega
    refine wpAny_pyNext_enum_endD (drawsTW hc.c.in1 it a nia nx its.toArray) he (by rw [← hi]; exact ⟨hit, p, (hc.at_ I).1⟩) fun h' eb => ⟨rfl, I.turned (t' := s.toks) (fun b o hb q => eb b o hb q) f0 f1 f3 f4 f5⟩
  self := by
    rintro A i s Q E ⟨⟨_, he⟩, _⟩ h
    exact wpAny_pyIter_enum he h
theorem sepW {z TI TO i1 i2 a b x1 : Addr} (D : ZipApart z TI TO i1 i2 a b) (nz : x1 ≠ z) (n1 : x1 ≠ i1) (n2 : x1 ≠ i2) (nO : x1 ≠ TO) : ZipSep2 z TI TO i1 i2 [i1, a, x1] [i2, b, x1] := by
  refine ⟨D.TIz, D.TOz, D.TITO, D.TIi1, by simp, ?_, ?_, D.TIi2, by simp, ?_, ?_, ?_, ?_⟩ <;>
    simp only [List.mem_cons, List.not_mem_nil, or_false, not_or]
  · exact ⟨D.i1z.symm, D.l1z.symm, nz.symm⟩
  · exact ⟨D.TOi1, D.l1TO.symm, nO.symm⟩
  · exact ⟨D.i2z.symm, D.l2z.symm, nz.symm⟩
  · exact ⟨D.TOi2, D.l2TO.symm, nO.symm⟩
  · exact ⟨D.i12, D.l2i1.symm, n1.symm⟩
  · exact ⟨D.i12.symm, D.l1i2.symm, n2.symm⟩
theorem turnW_zipM {P : Program} {w : World} {K : PySem.W.Frag} {elts : List Expr} {kk : Nat} {tpos : Pos} {a b z TI TO i1 i2 : Addr} (D : ZipApart z TI TO i1 i2 a b) :
    TurnW P w K (.Tuple elts kk tpos) (ItzM K a b) [z, TI, TO, i1, i2] z
      (fun i h => IsZip h z TI TO .none ∧ IsPair h TI (.ref i1) (.ref i2) ∧ (∃ x y, IsPair h TO x y) ∧ h.IsListIter i1 a i ∧ h.IsTupleIter i2 b i) where
  mem := by simp
  obj := by
    rintro i h ⟨hz, hTI, ⟨x, y, hTO⟩, ⟨o1, e1, _, d1⟩, ⟨o2, e2, _, d2⟩⟩ c hc
    simp only [List.mem_cons, List.not_mem_nil, or_false] at hc
    rcases hc with rfl | rfl | rfl | rfl | rfl
    · exact ⟨_, hz, fun v q => nomatch q⟩
    · exact ⟨_, hTI, fun v q => nomatch q⟩
    · exact ⟨_, hTO, fun v q => nomatch q⟩
    · exact ⟨o1, e1, fun v q => by rw [d1] at q; cases q⟩
    · exact ⟨o2, e2, fun v q => by rw [d2] at q; cases q⟩
  keep := by
    rintro i h h' ⟨hz, hTI, ⟨x, y, hTO⟩, h1, h2⟩ k
    exact ⟨k z (by simp) _ hz, k TI (by simp) _ hTI, ⟨x, y, k TO (by simp) _ hTO⟩, h1.at fun o q => k i1 (by simp) o q, h2.at fun o q => k i2 (by simp) o q⟩
  item := by
    rintro X x1 o1 rfl rfl rfl hc i pins s σ H E I hf st hg
    have nx1 : x1 ≠ i1 := hc.ne (hf i1 (by simp))
    have nx2 : x1 ≠ i2 := hc.ne (hf i2 (by simp))
    have nxz : x1 ≠ z := hc.ne (hf z (by simp))
    have nxT : x1 ≠ TI := hc.ne (hf TI (by simp))
    have nxO : x1 ≠ TO := hc.ne (hf TO (by simp))
    obtain ⟨hz, hTI, ⟨x0, y0, hTO⟩, h1, h2⟩ := st
    obtain ⟨xs, ys, x, y, hqx, hqy, hx, hy⟩ := hg
    obtain ⟨its, rv, p, _⟩ := I.list hqx
    obtain ⟨its2, rv2, p2, _⟩ := I.tuple hqy
    obtain ⟨u, hu, ru⟩ := rv.get hx
    obtain ⟨u2, hu2, ru2⟩ := rv2.get hy
    have hzl : z < s.heap.objs.size := Heap.lt_size hz
    have hl1 : i < its.toArray.size := by have := (List.getElem?_eq_some_iff.mp hu).1; simpa using this
    have hl2 : i < its2.toArray.size := by have := (List.getElem?_eq_some_iff.mp hu2).1; simpa using this
    refine wpAny_pyNext_zipD2_item (sepW D nxz nx1 nx2 nxO) (drawsLW hc.c.in1 i1 a D.l1i1 nx1 its.toArray) (drawsTW hc.c.in1 i2 b D.l2i2 nx2 its2.toArray) hz hTI hTO ⟨h1, p.isList, (hc.at_ I).1⟩ ⟨h2, p2, (hc.at_ I).1⟩ hl1 hl2 ?_
    intro v1 v2 h' tk hv1 hv2 z' TO' st1 st2 hT hsz hk
    have e1 : v1 = u := by
      have h3 : its.toArray[i]? = some u := by simpa using hu
      rw [show its.toArray[i]? = some v1 from hv1] at h3
      exact Option.some.inj h3
    have e2 : v2 = u2 := by
      have h3 : its2.toArray[i]? = some u2 := by simpa using hu2
      rw [show its2.toArray[i]? = some v2 from hv2] at h3
      exact Option.some.inj h3
    subst e1 e2
    refine ⟨_, rfl, wpAny_letOwnedTupleGo_zip (s := { s with heap := h', toks := tk }) z' fun h'' z'' sb => ?_⟩
    have hT2 : h''.get? s.heap.objs.size = some { cls := .type "tuple", data := .seq #[v1, v2] } := (sb.2 _ (Nat.ne_of_gt hzl)).trans hT
    have new : ObjOk X.prog X.w (upd H s.heap.objs.size (.tup [x, y])) h'' s.heap.objs.size (.tup [x, y]) :=
      ⟨by show 2 ≤ sizeLine; decide, [v1, v2], .cons ru (.cons ru2 .nil), ⟨_, hT2, rfl, _, rfl⟩⟩
    have kk : ∀ c o, c ∉ [z, TI, TO, i1, i2] → s.heap.get? c = some o → h''.get? c = some o := by
      intro c o hb q
      simp only [List.mem_cons, List.not_mem_nil, or_false, not_or] at hb
      exact (sb.2 c hb.1).trans (hk c o hb.1 hb.2.2.1 hb.2.2.2.1 hb.2.2.2.2 q)
    have I1 : Inv X pins σ (upd H s.heap.objs.size (.tup [x, y])) { s with heap := h'', toks := tk } :=
      I.turnedNew (t' := tk) (ch := [z, TI, TO, i1, i2]) kk hf (Nat.le_refl _) new
    refine ⟨.ref s.heap.objs.size, _, I1, rfl, ⟨_, x, y, rfl, I.hok.fresh (Nat.le_refl _), rfl, fun l hl => by rw [I.list_inj hl hqx]; exact hx, fun l hl => by rw [I.tuple_inj hl hqy]; exact hy⟩, ⟨z'', ?_, ⟨v1, v2, ?_⟩, ?_, ?_⟩, ?_⟩
    · exact (sb.2 _ D.TIz).trans (hk _ _ D.TIz D.TITO D.TIi1 D.TIi2 hTI)
    · exact (sb.2 _ D.TOz).trans TO'
    · exact st1.1.at fun o q => (sb.2 _ D.i1z).trans q
    · exact st2.1.at fun o q => (sb.2 _ D.i2z).trans q
    · intro c hcm
      have hlt : c < s.heap.objs.size := by
        simp only [List.mem_cons, List.not_mem_nil, or_false] at hcm
        rcases hcm with rfl | rfl | rfl | rfl | rfl
        · exact hzl
        · exact Heap.lt_size hTI
        · exact Heap.lt_size hTO
        · obtain ⟨_, e1, _⟩ := h1; exact Heap.lt_size e1
        · obtain ⟨_, e2, _⟩ := h2; exact Heap.lt_size e2
      rw [upd_ne (Nat.ne_of_lt hlt)]
      exact (hf c hcm).1
  done := by
    rintro X x1 o1 rfl rfl rfl hc i pins s σ H E I hf st hg
    have nx1 : x1 ≠ i1 := hc.ne (hf i1 (by simp))
    have nx2 : x1 ≠ i2 := hc.ne (hf i2 (by simp))
    have nxz : x1 ≠ z := hc.ne (hf z (by simp))
    have nxT : x1 ≠ TI := hc.ne (hf TI (by simp))
    have nxO : x1 ≠ TO := hc.ne (hf TO (by simp))
    obtain ⟨hz, hTI, ⟨x0, y0, hTO⟩, h1, h2⟩ := st
    obtain ⟨xs, ys, hqx, hqy, hend⟩ := hg
    obtain ⟨its, rv, p, _⟩ := I.list hqx
    obtain ⟨its2, rv2, p2, _⟩ := I.tuple hqy
    have l1 := rv.length
    have l2 := rv2.length
    refine wpAny_pyNext_zipD2_end (i := i) (sepW D nxz nx1 nx2 nxO) (drawsLW hc.c.in1 i1 a D.l1i1 nx1 its.toArray) (drawsTW hc.c.in1 i2 b D.l2i2 nx2 its2.toArray) hz hTI hTO ⟨h1, p.isList, (hc.at_ I).1⟩ ⟨h2, p2, (hc.at_ I).1⟩ (by simp; omega) (by simp; omega) (by simp; omega) ?_
    intro h' tk hk
    refine ⟨rfl, I.turnedL (t' := tk) (ch := [z, TI, TO, i1, i2]) ?_ hf⟩
    intro c o hb q
    simp only [List.mem_cons, List.not_mem_nil, or_false, not_or] at hb
    exact hk c o hb.1 hb.2.2.1 hb.2.2.2.1 hb.2.2.2.2 q
  self := fun A {i s Q E} st h => wpAny_pyIter_zip st.1 h
end Pv
set_option maxHeartbeats 4000000
namespace Pv
open PySem PySem.Spec PyProof.Rows L2
/-! a set walked while an error is handled -/
section
variable {P : Program} {w : World} {A : Around} {E : Value → Shared → Prop} {s : Shared} {a it I x1 : Addr} {o1 : Obj} {es : Array (Int × Value)} {ep : Nat} {t : SetTable} {i sl : Nat}
theorem stopAtHot {h0 : Heap} {Q : Option Value → Shared → Prop} (hot : HotX.HotAt A x1 h0) (hk : ∀ b o, b ≠ it → s.heap.get? b = some o → h0.get? b = some o) (hQ : ∀ h', Heap.ExtBut it s.heap h' → Q none { s with heap := h' }) :
    wpAny (model P w) A.in1 (newExc (.type "StopIteration") [] >>= fun e => (raiseNew e : Sem Fin)) (fun _ _ => False) (fun e s' => wpAny (model P w) A (do if ← isInstance e (.type "StopIteration") then pure none else throw e) Q E s') { s with heap := h0 } :=
  stopHot (A := A.in1) (s := { s with heap := h0 }) hot fun h' e k he => stop_ok (s := { s with heap := h' }) he (hQ h' fun b o hb q => k b o (hk b o hb q))
theorem setEndHot {Q : Option Value → Shared → Prop} (hot : HotX.HotAt A x1 s.heap) (hne : x1 ≠ it) (hit : IsSI s.heap it (.int (sl : Int) 0) i a es.size ep) (ha : SetAt s.heap a es ep t) (hf : t.fits es.size = true)
    (hN : ∀ (A' : Around) (E' : Value → Shared → Prop) (Q' : Option (Value × Nat) → Shared → Prop), Q' none s → wpAny (model P w) A' (setNext a sl i ep) Q' E' s) (hQ : ∀ h', Heap.ExtBut it s.heap h' → Q none { s with heap := h' }) : wpAny (model P w) A (pyNext (.ref it)) Q E s := by
  obtain ⟨o, ho, hc, hd⟩ := id hit; obtain ⟨oa, hoa, _, hda⟩ := id ha; obtain ⟨hh, o1, vs1, h1, d1, c1⟩ := hot
  unfold pyNext; refine wpAny_bind (wpAny_attempt (wpAny_callSpecial?_slot (name := Str.ofString "__next__") hit.typeIs slot_si_next (wpAny_call_entry slot_si_next hit.typeIs entry_si_next ?_ (args_si_next _))))
  unfold Builtin.«set_iterator.__next__»; refine wpAny_bind (m := slotArgs "__next__" 0 _) (wpAny_pure (wpAny_bind (wpAny_fieldsOf ho hd ?_)))
  show wpAny _ _ (setEntries a >>= _) _ _ s; refine wpAny_bind (wpAny_setEntries_of hoa hda hf (wp_if_neg (by simp) ?_))
  try refine wpAny_bind (wpAny_pure ?_)
  show wpAny _ _ (setNext a sl i ep >>= _) _ _ s; refine wpAny_bind (hN _ _ _ ?_)
  show wpAny _ _ (setField (.ref it) 2 .none >>= _) _ _ s; refine wpAny_bind (wpAny_setField ho hd (by simp) ?_)
  refine wpAny_mono (stopAtHot (s := s) (it := it) (Q := Q) (E := E) (A := A) (x1 := x1) ⟨hh, o1, vs1, ?_, d1, c1⟩ (fun b ob hb e => ?_) hQ) (fun _ _ z => z.elim) fun e s' z => z
  · rw [Heap.get?_update_other _ _ hne.symm]; exact h1
  · exact (Heap.get?_update_other _ _ (Ne.symm hb)).trans e
theorem drawnEndHot {p : Addr} {ys : List Nat} {Q : Option Value → Shared → Prop} (hot : HotX.HotAt A x1 s.heap) (hne : x1 ≠ it) (hit : IsSI s.heap it (.ref p) i a es.size ep) (ha : SetAt s.heap a es ep t) (hf : t.fits es.size = true)
    (hp : s.heap.get? p = some { cls := .type "tuple", data := .seq (ys.map fun (k : Nat) => rawInt (k : Int)).toArray }) (hj : ys[i]? = none) (hQ : ∀ h', Heap.ExtBut it s.heap h' → Q none { s with heap := h' }) : wpAny (model P w) A (pyNext (.ref it)) Q E s := by
  obtain ⟨o, ho, hc, hd⟩ := id hit; obtain ⟨oa, hoa, _, hda⟩ := id ha; obtain ⟨hh, o1, vs1, h1, d1, c1⟩ := hot
  unfold pyNext; refine wpAny_bind (wpAny_attempt (wpAny_callSpecial?_slot (name := Str.ofString "__next__") hit.typeIs slot_si_next (wpAny_call_entry slot_si_next hit.typeIs entry_si_next ?_ (args_si_next _))))
  unfold Builtin.«set_iterator.__next__»; refine wpAny_bind (m := slotArgs "__next__" 0 _) (wpAny_pure (wpAny_bind (wpAny_fieldsOf ho hd ?_)))
  show wpAny _ _ (setEntries a >>= _) _ _ s; refine wpAny_bind (wpAny_setEntries_of hoa hda hf (wp_if_neg (by simp) ?_))
  try refine wpAny_bind (wpAny_pure ?_)
  show wpAny _ _ (seqItems? (.ref p) >>= _) _ _ s; refine wpAny_bind (wpAny_seqItems hp rfl ?_)
  dsimp only
  rw [show (ys.map fun (k : Nat) => rawInt (k : Int)).toArray[(Int.toNat (i : Int))]? = none by simp [hj]]
  show wpAny _ _ (setField (.ref it) 0 (rawInt 0) >>= _) _ _ s; refine wpAny_bind (wpAny_setField ho hd (by simp) ?_)
  have g1 := Heap.get?_update_self (Obj.mapFields (·.setIfInBounds 0 (rawInt 0))) ho (Obj.isFreed_of_fields (Obj.data_mapFields hd _))
  show wpAny _ _ (setField (.ref it) 2 .none >>= _) _ _ _; refine wpAny_bind (wpAny_setField g1 (Obj.data_mapFields hd (·.setIfInBounds 0 (rawInt 0))) (by simp) ?_)
  refine wpAny_mono (stopAtHot (s := s) (it := it) (Q := Q) (E := E) (A := A) (x1 := x1) ⟨hh, o1, vs1, ?_, d1, c1⟩ (fun b ob hb e => ?_) hQ) (fun _ _ z => z.elim) fun e s' z => z
  · rw [Heap.get?_update_other _ _ hne.symm, Heap.get?_update_other _ _ hne.symm]; exact h1
  · exact (Heap.get?_update_other _ _ (Ne.symm hb)).trans ((Heap.get?_update_other _ _ (Ne.symm hb)).trans e)
/-! the three orders -/
theorem walksTextW (c : HotO A x1 o1) (hx : x1 ≠ I) (hne : a ≠ I) (hf : t.fits es.size = true) (hbt : w.params.followText "set-order" = true) :
    Walks P w A I [I, a, x1] [I] (pickOrder (w.params.setOrder a ep) es).size (fun j v => ((pickOrder (w.params.setOrder a ep) es)[j]?).map (·.2) = some v) (fun i h => (IsSI h I (.int ((0 : Nat) : Int) 0) i a es.size ep ∧ SetAt h a es ep t) ∧ h.get? x1 = some o1) where
  sub := fun b hb => by cases List.mem_singleton.mp hb; simp
  frame := fun _ _ _ st k => ⟨⟨st.1.1.at fun o e => k I (by simp) o e, st.1.2.at fun o e => k a (by simp) o e⟩, k x1 (by simp) _ st.2⟩
  item := fun i s Q E hi ⟨⟨z1, z2⟩, z3⟩ hQ => by
    have e := Array.getElem?_eq_getElem hi
    refine next_item (x := ((pickOrder (w.params.setOrder a ep) es)[i]).2) (nx := 0) z1 z2 hf (fun A' E' Q' h => setNext_text z2 hf hbt (by rw [e]; exact h)) fun h' hit' sb => hQ _ h' s.toks (congrArg (Option.map fun q : Int × Value => q.2) e) ⟨⟨hit', z2.at fun o q => sb.extBut a o hne q⟩, sb.extBut x1 _ hx z3⟩ fun b o hb q => sb.extBut b o (fun z => hb (by simp [z])) q
  done := fun s Q E ⟨⟨z1, z2⟩, z3⟩ hQ => by
    refine setEndHot (c.at z3) hx z1 z2 hf (fun A' E' Q' h => setNext_text z2 hf hbt (by rw [Array.getElem?_eq_none (Nat.le_refl _)]; exact h)) fun h' eb => hQ h' s.toks fun b o hb q => eb b o (fun z => hb (by simp [z])) q
  self := fun _ _ _ _ st hQ => iter_self st.1.1 hQ
theorem walksLedW (c : HotO A x1 o1) (hx : x1 ≠ I) (hne : a ≠ I) (hf : t.fits es.size = true) (r : Ris t.place.toList) (hbt : w.params.followText "set-order" = false) (hdr : (!t.plain && decide (es.size > 1)) = false) (hl : t.led = true) :
    Walks P w A I [I, a, x1] [I] es.size (fun j v => (es[j]?).map (·.2) = some v) (fun i h => (IsSI h I (.int ((slotAt t i : Nat) : Int) 0) i a es.size ep ∧ SetAt h a es ep t) ∧ h.get? x1 = some o1) where
  sub := fun b hb => by cases List.mem_singleton.mp hb; simp
  frame := fun _ _ _ st k => ⟨⟨st.1.1.at fun o e => k I (by simp) o e, st.1.2.at fun o e => k a (by simp) o e⟩, k x1 (by simp) _ st.2⟩
  item := fun i s Q E hi ⟨⟨z1, z2⟩, z3⟩ hQ => by
    have hps : t.place.size = es.size := by
      simp only [SetTable.fits, Bool.and_eq_true, beq_iff_eq] at hf
      exact hf.1
    have e := Array.getElem?_eq_getElem hi
    have e2 := Array.getElem?_eq_getElem (hps.symm ▸ hi : i < t.place.size)
    have hb := below_slotAt r (Nat.le_of_lt (hps.symm ▸ hi : i < t.place.size))
    have hnx : slotAt t (i + 1) = t.place[i]'(hps.symm ▸ hi) + 1 := by
      show (t.place.toList[i]?.getD 0) + 1 = _
      rw [Array.getElem?_toList, e2] <;> rfl
    refine next_item (x := (es[i]).2) (nx := t.place[i]'(hps.symm ▸ hi) + 1) z1 z2 hf (fun A' E' Q' h => setNext_led z2 hf hbt hdr hl (by rw [hb, e, e2]; exact h)) fun h' hit' sb => hQ _ h' s.toks (congrArg (Option.map fun q : Int × Value => q.2) e) ⟨⟨by rw [hnx]; exact hit', z2.at fun o q => sb.extBut a o hne q⟩, sb.extBut x1 _ hx z3⟩ fun b o hb q => sb.extBut b o (fun z => hb (by simp [z])) q
  done := fun s Q E ⟨⟨z1, z2⟩, z3⟩ hQ => by
    have hps : t.place.size = es.size := by
      simp only [SetTable.fits, Bool.and_eq_true, beq_iff_eq] at hf
      exact hf.1
    have hb : SetTable.below t.place (slotAt t es.size) = es.size := below_slotAt r (Nat.le_of_eq hps.symm)
    refine setEndHot (c.at z3) hx z1 z2 hf (fun A' E' Q' h => setNext_led z2 hf hbt hdr hl (by rw [hb, Array.getElem?_eq_none (Nat.le_refl _), Array.getElem?_eq_none (Nat.le_of_eq hps)]; exact h)) fun h' eb => hQ h' s.toks fun b o hb q => eb b o (fun z => hb (by simp [z])) q
  self := fun _ _ _ _ st hQ => iter_self st.1.1 hQ
theorem walksDrawnW {p : Addr} {ys : List Nat} (c : HotO A x1 o1) (hx : x1 ≠ I) (hne : a ≠ I) (hpe : p ≠ I) (hf : t.fits es.size = true) (hy : ∀ j ∈ ys, j < es.size) :
    Walks P w A I [I, a, p, x1] [I] ys.length (fun j v => (ys[j]?).bind (fun q => (es[q]?).map (·.2)) = some v)
      (fun i h => (IsSI h I (.ref p) i a es.size ep ∧ SetAt h a es ep t ∧ h.get? p = some { cls := .type "tuple", data := .seq (ys.map fun (k : Nat) => rawInt (k : Int)).toArray }) ∧ h.get? x1 = some o1) where
  sub := fun b hb => by cases List.mem_singleton.mp hb; simp
  frame := fun _ _ _ st k => ⟨⟨st.1.1.at fun o e => k I (by simp) o e, st.1.2.1.at fun o e => k a (by simp) o e, k p (by simp) _ st.1.2.2⟩, k x1 (by simp) _ st.2⟩
  item := fun i s Q E hi ⟨⟨z1, z2, z4⟩, z3⟩ hQ => by
    have e := List.getElem?_eq_getElem hi
    have e2 := Array.getElem?_eq_getElem (hy _ (List.getElem_mem hi))
    refine next_drawn_item z1 z2 hf z4 e e2 fun h' hit' sb => hQ _ h' s.toks ?_ ⟨⟨hit', z2.at fun o q => sb.extBut a o hne q, sb.extBut p _ hpe z4⟩, sb.extBut x1 _ hx z3⟩ fun b o hb q => sb.extBut b o (fun z => hb (by simp [z])) q
    rw [e]
    show (es[ys[i]]?).map (·.2) = _
    rw [e2] <;> rfl
  done := fun s Q E ⟨⟨z1, z2, z4⟩, z3⟩ hQ => drawnEndHot (c.at z3) hx z1 z2 hf z4 (List.getElem?_eq_none (Nat.le_refl _)) fun h' eb => hQ h' s.toks fun b o hb q => eb b o (fun z => hb (by simp [z])) q
  self := fun _ _ _ _ st hQ => iter_self st.1.1 hQ
end
end Pv
set_option maxHeartbeats 8000000
namespace Pv
open PySem PySem.Spec PyProof.Rows L2
/-! set(t) and sorted(set) while an error is handled -/
section
variable {P : Program} {w : World} {A : Around} {E : Value → Shared → Prop} {s : Shared} {a x1 : Addr} {o1 : Obj} {es : Array (Int × Value)} {ep : Nat} {t : SetTable}
def SetItW (P : Program) (w : World) (x1 : Addr) (o1 : Obj) (s : Shared) (a : Addr) (es : Array (Int × Value)) (s₂ : Shared) (I : Addr) : Prop :=
  ∃ (fp : List Addr) (St : Nat → Heap → Prop) (out : List Value) (n : Nat) (Pv : Nat → Value → Prop), (∀ b o, s.heap.get? b = some o → s₂.heap.get? b = some o) ∧ s₂.gens = s.gens ∧ s₂.os = s.os ∧ s.heap.objs.size ≤ I ∧ (∀ b ∈ fp, b = a ∨ b = x1 ∨ s.heap.objs.size ≤ b) ∧
    out.Perm (es.toList.map (·.2)) ∧ out.length = n ∧ (∀ A' : Around, HotO A' x1 o1 → Walks P w A' I fp [I] n Pv St) ∧ (∀ j v, Pv j v → out[j]? = some v) ∧ St 0 s₂.heap
theorem iterSetW {Q : Value → Shared → Prop} (e1 : s.heap.get? x1 = some o1) (ha : SetAt s.heap a es ep t) (hf : t.fits es.size = true) (hsz : es.size < scanBound) (r : Ris t.place.toList) (hl : w.params.followText "set-order" = true ∨ t.led = true)
    (hQ : ∀ s₂ I, SetItW P w x1 o1 s a es s₂ I → Q (.ref I) s₂) : wpAny (model P w) A (pyIter (.ref a)) Q E s := by
  obtain ⟨o, ho, hc, hd⟩ := id ha
  have lx := Heap.lt_size e1
  have la := Heap.lt_size ho
  refine wpAny_pyIter_slot ⟨o, ho, hc⟩ F.slot_set_iter (wpAny_call_entry F.slot_set_iter ⟨o, ho, hc⟩ entry_s_iter ?_ (F.args_set_iter_1 _))
  unfold Builtin.«frozenset.__iter__»; refine wpAny_bind (m := Builtin.Frozenset.slot0 "__iter__" _) (wpAny_of_eq (a := a) (by rfl) (wpAny_bind (m := Builtin.Frozenset.sizeOf a) ?_))
  unfold Builtin.Frozenset.sizeOf; refine wpAny_bind (wpAny_setEntries_of ho hd hf (wpAny_pure ?_))
  first | refine wpAny_bind (setDrawn_at ha hf ?_) | refine wpAny_bind (wpAny_bind (setDrawn_at ha hf ?_))
  have two : ∀ b ∈ [s.heap.objs.size, a, x1], b = a ∨ b = x1 ∨ s.heap.objs.size ≤ b := fun b hb => by
    simp only [List.mem_cons, List.not_mem_nil, or_false] at hb
    rcases hb with z | z | z
    · exact .inr (.inr (Nat.le_of_eq z.symm))
    · exact .inl z
    · exact .inr (.inl z)
  cases hb : w.params.followText "set-order" with
  | true =>
    refine wp_if_neg (by simp) ?_
    first | refine wpAny_bind (wpAny_pure ?_) | refine wpAny_pure ?_
    refine wpAny_bind (wpAny_setEpoch_of ho hd hf (wpAny_bind (wpAny_newObj_type (wpAny_pure ⟨_, rfl, "set_iterator", _, ⟨_, Heap.get?_push_size _ rfl, rfl⟩, slot_si_next.lookup, ?_⟩))))
    refine hQ _ _ ⟨[s.heap.objs.size, a, x1], _, (pickOrder (w.params.setOrder a ep) es).toList.map (·.2), (pickOrder (w.params.setOrder a ep) es).size, _, fun b u e => Heap.get?_push_of_some _ e, rfl, rfl, Nat.le_refl _, two, (pick_perm _ es).map _, by rw [List.length_map, Array.length_toList], fun A' hA' => walksTextW (ep := ep) hA' (Nat.ne_of_lt lx) (Nat.ne_of_lt la) hf hb, fun j v q => ?_, ⟨⟨_, Heap.get?_push_size _ rfl, rfl, rfl⟩, ha.at fun u e => Heap.get?_push_of_some _ e⟩, Heap.get?_push_of_some _ e1⟩
    rw [List.getElem?_map, Array.getElem?_toList]; exact q
  | false =>
    have hled : t.led = true := hl.resolve_left (by rw [hb]; exact Bool.false_ne_true)
    cases hdr : (!t.plain && decide (es.size > 1)) with
    | false =>
      refine wp_if_neg (by simp) ?_
      first | refine wpAny_bind (wpAny_pure ?_) | refine wpAny_pure ?_
      refine wpAny_bind (wpAny_setEpoch_of ho hd hf (wpAny_bind (wpAny_newObj_type (wpAny_pure ⟨_, rfl, "set_iterator", _, ⟨_, Heap.get?_push_size _ rfl, rfl⟩, slot_si_next.lookup, ?_⟩))))
      refine hQ _ _ ⟨[s.heap.objs.size, a, x1], _, es.toList.map (·.2), es.size, _, fun b u e => Heap.get?_push_of_some _ e, rfl, rfl, Nat.le_refl _, two, List.Perm.refl _, by rw [List.length_map, Array.length_toList], fun A' hA' => walksLedW (ep := ep) hA' (Nat.ne_of_lt lx) (Nat.ne_of_lt la) hf r hb hdr hled, fun j v q => ?_, ⟨⟨_, Heap.get?_push_size _ rfl, rfl, rfl⟩, ha.at fun u e => Heap.get?_push_of_some _ e⟩, Heap.get?_push_of_some _ e1⟩
      rw [List.getElem?_map, Array.getElem?_toList]; exact q
    | true =>
      refine wp_if_pos rfl (wpAny_bind (drawOrder_at _ _ _ _ (Nat.le_of_eq List.length_range) fun ys d hp => ?_))
      have hyl : ys.length = es.size := by rw [hp.length_eq, List.length_range]
      have hsl : (ys.map fun (k : Nat) => rawInt (k : Int)).length ≤ sizeLine := by rw [List.length_map, hyl]; exact fits_of_scanBound hsz
      first | refine wpAny_bind (wpAny_newTuple ?_ hsl) | refine wpAny_newTuple ?_ hsl
      refine wpAny_bind (wpAny_setEpoch_of (Heap.get?_push_of_some _ ho) hd hf (wpAny_bind (wpAny_newObj_type (wpAny_pure ⟨_, rfl, "set_iterator", _, ⟨_, Heap.get?_push_size _ rfl, rfl⟩, slot_si_next.lookup, ?_⟩))))
      have sz : (s.heap.push { cls := .type "tuple", data := .seq (ys.map fun (k : Nat) => rawInt (k : Int)).toArray }).objs.size = s.heap.objs.size + 1 := size_push' _ _
      have ne1 : ∀ {b}, b < s.heap.objs.size + 1 → b ≠ (s.heap.push { cls := .type "tuple", data := .seq (ys.map fun (k : Nat) => rawInt (k : Int)).toArray }).objs.size := fun hb => by rw [sz]; exact Nat.ne_of_lt hb
      have hpm : (ys.map fun q => ((es[q]?).map (·.2)).getD Value.none).Perm (es.toList.map (·.2)) := by
        rw [← range_map es]
        exact hp.map _
      refine hQ _ _ ⟨_, _, ys.map fun q => ((es[q]?).map (·.2)).getD Value.none, ys.length, _, fun b u e => Heap.get?_push_of_some _ (Heap.get?_push_of_some _ e), rfl, rfl, ?_, fun b hb' => ?_, hpm, List.length_map _, fun A' hA' => walksDrawnW (ep := ep) (t := t) hA' (ne1 (Nat.lt_succ_of_lt lx)) (ne1 (Nat.lt_succ_of_lt la)) (ne1 (Nat.lt_succ_self s.heap.objs.size)) hf fun j hj => List.mem_range.mp (hp.mem_iff.mp hj),
        fun j v q => ?_, ⟨⟨_, Heap.get?_push_size _ rfl, rfl, rfl⟩, ha.at fun u e => Heap.get?_push_of_some _ (Heap.get?_push_of_some _ e), Heap.get?_push_of_some _ (Heap.get?_push_size _ rfl)⟩, Heap.get?_push_of_some _ (Heap.get?_push_of_some _ e1)⟩
      · rw [sz]; exact Nat.le_succ _
      · simp only [List.mem_cons, List.not_mem_nil, or_false] at hb'
        rcases hb' with z | z | z | z
        · exact .inr (.inr (by rw [z, sz]; exact Nat.le_succ _))
        · exact .inl z
        · exact .inr (.inr (Nat.le_of_eq z.symm))
        · exact .inr (.inl z)
      · rw [List.getElem?_map]
        cases hy : ys[j]? with
        | none => rw [hy] at q; cases q
        | some k =>
          rw [hy] at q
          show some (((es[k]?).map (·.2)).getD Value.none) = some v
          rw [show (es[k]?).map (·.2) = some v from q] <;> rfl
end
end Pv
set_option maxHeartbeats 2000000
namespace Pv
open PySem PySem.Spec PyProof.Rows L2
/-! what one iterates over while an error is handled; for; comprehensions -/
def PIEW (X : Cx) (pins : List (Addr × Obj)) (σ : L2.St) (tg : Expr) (R : It → Hp → Prop) (itv : Value) (s2 : Shared) : Prop :=
  ∃ it fp tn J H', itv = .ref it ∧ Inv X pins σ H' s2 ∧ TurnW X.prog X.w X.K tg J fp it tn ∧ tn 0 s2.heap ∧ (∀ b ∈ fp, FpOk X pins H' b) ∧ R J H'
def PIW (X : Cx) (tg iter : Expr) (wi : TI) : Prop := ∀ {pins : List (Addr × Obj)} {s : Shared} {σ : L2.St} {H : Hp} {R : It → Hp → Prop}, Inv X pins σ H s → wi σ H R →
  wpAny (model X.prog X.w) X.A (eval iter X.env) (fun v s1 => wpAny (model X.prog X.w) X.A (pyIter v) (PIEW X pins σ tg R) X.xe s1) X.xe s
section
variable {X : Cx} {tg : Expr}
theorem freshW {pins : List (Addr × Obj)} {σ : L2.St} {H : Hp} {s : Shared} (I : Inv X pins σ H s) {fp : List Addr} (h : ∀ b ∈ fp, s.heap.objs.size ≤ b) : ∀ b ∈ fp, FpOk X pins H b := fun b hb => I.fpOk (h b hb) (I.hok.fresh (h b hb))
theorem piW_list {l : Expr} {tl : TE} (hl : PE X l tl) : PIW X tg l (iList X.K tl) := by
  intro pins s σ H R I h
  refine thn (hl.run pins s σ H _ I h) ?_
  rintro v s1 ⟨_, H1, I1, r1, a, rfl, ⟨xs, hq⟩, q⟩
  obtain rfl : v = Value.ref a := r1
  obtain ⟨its, rv, p, _⟩ := I1.list hq
  exact wpAny_pyIter_list p.isList ⟨s1.heap.objs.size, [s1.heap.objs.size], _, _, H1, rfl, I1.kept (t' := s1.toks) fun b o e => Heap.get?_push_of_some _ e, turnW_list a _, ⟨_, Heap.get?_push_size _ rfl, rfl, rfl⟩, freshW I1 fun b hb => Nat.le_of_eq (List.mem_singleton.mp hb).symm, q⟩
theorem piW_tup {l : Expr} {tl : TE} (hl : PE X l tl) : PIW X tg l (iTup X.K tl) := by
  intro pins s σ H R I h
  refine thn (hl.run pins s σ H _ I h) ?_
  rintro v s1 ⟨_, H1, I1, r1, a, rfl, ⟨xs, hq⟩, q⟩
  obtain rfl : v = Value.ref a := r1
  obtain ⟨its, rv, p, _⟩ := I1.tuple hq
  exact wpAny_pyIter_tuple (show s1.heap.IsTuple a its.toArray from p) ⟨s1.heap.objs.size, [s1.heap.objs.size], _, _, H1, rfl, I1.kept (t' := s1.toks) fun b o e => Heap.get?_push_of_some _ e, turnW_tup a _, ⟨_, Heap.get?_push_size _ rfl, rfl, rfl⟩, freshW I1 fun b hb => Nat.le_of_eq (List.mem_singleton.mp hb).symm, q⟩
theorem rangeItW {pins : List (Addr × Obj)} {σ : L2.St} {H : Hp} {s : Shared} {R : It → Hp → Prop} {E : Value → Shared → Prop} {lo hi : Int} {t u v : Tok} {tk : Nat} (I : Inv X pins σ H s) (h1 : -(2 ^ 62) ≤ lo) (h2 : lo < 2 ^ 62) (h3 : -(2 ^ 62) ≤ hi) (h4 : hi < 2 ^ 62) (q : R (Itr lo (hi - lo).toNat) H) :
    wpAny (model X.prog X.w) X.A (pyIter (.ref s.heap.objs.size)) (PIEW X pins σ tg R) E { s with heap := s.heap.push { cls := .type "range", data := .fields #[.int lo t, .int hi u, .int 1 v] }, toks := tk } := by
  have I1 : Inv X pins σ H { s with heap := s.heap.push { cls := .type "range", data := .fields #[.int lo t, .int hi u, .int 1 v] }, toks := tk } := I.kept fun b o e => Heap.get?_push_of_some _ e
  have z : (((hi - lo).toNat : Nat) : Int) - ((0 : Nat) : Int) = Builtin.Range.rangeSize lo hi 1 := by
    rw [rangeSize_one]; split <;> omega
  refine wpAny_pyIter_range (IsRange.new ..) (small_one h1 h2 h3 h4) ⟨_, [_], _, _, H, rfl, I1.kept (t' := tk) fun b o e => Heap.get?_push_of_some _ e, turnW_range _ lo (hi - lo).toNat, ?_, freshW I1 fun b hb => Nat.le_of_eq (List.mem_singleton.mp hb).symm, q⟩
  show IsRangeIter _ _ (lo + ((0 : Nat) : Int) * 1) ((((hi - lo).toNat : Nat) : Int) - ((0 : Nat) : Int)) 1
  rw [z, show lo + ((0 : Nat) : Int) * 1 = lo by simp]
  exact Heap.get?_push_size _ rfl
theorem piW_range1 {a : Expr} {ta : TA} {p pos : Pos} (hg : Gl X "range") (hm : X.mg "range" = none) (ha : PA X [a] ta) (hs : starEach [a] X.env = [(false, eval a X.env)] := by rfl) : PIW X tg (.Call (.Name "range" p) [a] [] pos) (iRng1 ta) := by
  intro pins s σ H R I h
  refine Call_ (ld_blt I hg hm boot_range (PyProof.Rows.callWith_type1 (thn (ha.run pos pins s σ H _ I h) ?_) hs rfl))
  rintro us s1 ⟨vs, H1, I1, r1, j, rfl, q1, q2, q⟩
  obtain ⟨u, rfl, t, rfl⟩ := vals1 r1
  exact call_range_1 (rangeItW I1 (by omega) (by omega) q1 q2 (by simpa using q))
theorem piW_range2 {a b : Expr} {ta : TA} {p pos : Pos} (hg : Gl X "range") (hm : X.mg "range" = none) (ha : PA X [a, b] ta) (hs : starEach [a, b] X.env = [(false, eval a X.env), (false, eval b X.env)] := by rfl) (hs2 : starEach [b] X.env = [(false, eval b X.env)] := by rfl) :
    PIW X tg (.Call (.Name "range" p) [a, b] [] pos) (iRng2 ta) := by
  intro pins s σ H R I h
  refine Call_ (ld_blt I hg hm boot_range (PyProof.Rows.callWith_type1 (thn (ha.run pos pins s σ H _ I h) ?_) (by rw [hs, hs2]) (by rw [hs2]; rfl)))
  rintro us s1 ⟨vs, H1, I1, r1, i, j, rfl, ⟨q1, q2, q3, q4⟩, q⟩
  obtain ⟨u, u', rfl, ⟨t, rfl⟩, t', rfl⟩ := vals2 r1
  exact call_range_2 (rangeItW I1 q1 q2 q3 q4 q)
theorem piW_enumT {e : Expr} {ta : TA} {p pos tpos : Pos} {elts : List Expr} {kk : Nat} (hg : Gl X "enumerate") (hm : X.mg "enumerate" = none) (ha : PA X [e] ta)
    (hs : starEach [e] X.env = [(false, eval e X.env)] := by rfl) : PIW X (.Tuple elts kk tpos) (.Call (.Name "enumerate" p) [e] [] pos) (iEnumT X.K ta) := by
  intro pins s σ H R I h
  refine Call_ (ld_blt I hg hm boot_enumerate (PyProof.Rows.callWith_type1 (thn (ha.run pos pins s σ H _ I h) ?_) hs rfl))
  rintro us s1 ⟨vs, H1, I1, r1, a, xs, rfl, hq, q⟩
  obtain ⟨u, rfl, rfl⟩ := vals1 r1
  obtain ⟨its, rv, p', hz⟩ := I1.tuple hq
  refine call_enumT (show s1.heap.IsTuple a its.toArray from p') fun h' he hit hk => wpAny_pyIter_enum he ⟨s1.heap.objs.size + 1, [s1.heap.objs.size + 1, s1.heap.objs.size], _, _, H1, rfl, I1.kept (t' := s1.toks) hk, turnW_enumT a (s1.heap.objs.size + 1) s1.heap.objs.size, ⟨⟨.none, he⟩, hit, Nat.succ_ne_self _⟩, ?_, q⟩
  refine freshW I1 fun b hb => ?_
  simp only [List.mem_cons, List.not_mem_nil, or_false] at hb
  rcases hb with rfl | rfl <;> omega
theorem piW_zipM {e e2 : Expr} {ta : TA} {p pos tpos : Pos} {elts : List Expr} {kk : Nat} (hg : Gl X "zip") (hm : X.mg "zip" = none) (ha : PA X [e, e2] ta)
    (hs : starEach [e, e2] X.env = (false, eval e X.env) :: starEach [e2] X.env := by rfl) (hpl : (backTo pos (starEach [e2] X.env)).any (·.1) = false := by rfl) :
    PIW X (.Tuple elts kk tpos) (.Call (.Name "zip" p) [e, e2] [] pos) (iZipM X.K ta) := by
  intro pins s σ H R I h
  refine Call_ (ld_blt I hg hm PyProof.Rows.boot_zip (PyProof.Rows.callWith_type1 (thn (ha.run pos pins s σ H _ I h) ?_) hs hpl))
  rintro us s1 ⟨vs, H1, I1, r1, a, b, xs, ys, rfl, hqx, hqy, q⟩
  obtain ⟨u, v, rfl, rfl, rfl⟩ := vals2 r1
  obtain ⟨its, rv, p1, _⟩ := I1.list hqx
  obtain ⟨its2, rv2, p2, _⟩ := I1.tuple hqy
  refine call_zipM p1.isList (show s1.heap.IsTuple b its2.toArray from p2) fun h' hz hTI hTO h1 h2 hk => wpAny_pyIter_zip hz ⟨s1.heap.objs.size + 4, [s1.heap.objs.size + 4, s1.heap.objs.size + 2, s1.heap.objs.size + 3, s1.heap.objs.size, s1.heap.objs.size + 1], _, _, H1, rfl, I1.kept (t' := s1.toks) hk,
    turnW_zipM (PySem.W.ktu_apart s1.heap.objs.size a b p1.lt (tupLt p2)), ⟨hz, hTI, ⟨_, _, hTO⟩, h1, h2⟩, ?_, q⟩
  refine freshW I1 fun c hcm => ?_
  simp only [List.mem_cons, List.not_mem_nil, or_false] at hcm
  rcases hcm with rfl | rfl | rfl | rfl | rfl <;> omega
/-- for -/
theorem ps_forW {x1 : Addr} {o1 : Obj} {iter : Expr} {body : List Stmt} {wi : TI} {g : TG} {tb : TS} {pos : Pos} (hp : PassesOwn (model X.prog X.w) X.A X.env X.xe) (hc : HotS X x1 o1) (hi : PIW X tg iter wi) (hg : PG X tg g) (hb : PSs X body tb)
    (hs : ∀ x, foldedSetIterable iter X.env x = pure x := by intro _; rfl) : PS X (.For tg iter body [] pos) (tFor wi g tb) := by
  constructor
  intro pins s σ H D I h
  refine wpAny_For (thn (hi I h) fun v s1 z1 => thn z1 ?_) hs
  rintro itv s2 ⟨it, fp, tn, J, H2, rfl, I2, T, st2, f2, W, ⟨m0, w0⟩, turn⟩
  have again : ∀ {Hn : Hp}, (∀ b ∈ fp, Hn b = none) → ∀ b ∈ fp, FpOk X pins Hn b := fun z b hb => ⟨z b hb, (f2 b hb).2⟩
  refine codeAny_forLoop_any (fun n t => ∃ i τ G, Inv X pins τ G t ∧ tn i t.heap ∧ (∀ b ∈ fp, G b = none) ∧ W i n τ G) ?_ m0 ⟨0, σ, H2, I2, st2, fun b hb => (f2 b hb).1, w0⟩
  rintro n t ⟨i, τ, G, J3, tn3, no3, w3⟩
  rcases turn i n τ G w3 with ⟨stop, qn⟩ | ⟨go, N, hN, step⟩
  · refine wpAny_passesOwn hp (thn (T.done X x1 o1 rfl rfl rfl hc (E := X.xe) J3 (again no3) tn3 stop) ?_)
    rintro r t4 ⟨rfl, J4⟩
    exact wpAny_execs_nil ⟨τ, G, J4, qn⟩
  · refine wpAny_passesOwn hp (thn (T.item X x1 o1 rfl rfl rfl hc (E := X.xe) J3 (again no3) tn3 go) ?_)
    rintro r t4 ⟨u, rfl, z4⟩
    refine wpAny_passesOwn hp (thn z4 ?_)
    rintro _ t5 ⟨x, G5, J5, r5, y5, tn5, no5⟩
    refine wpAny_passesOwn hp (thn (hg.run _ t5 τ G5 x u _ (J5.pinned (again no5) (T.obj _ _ tn5)) r5 (step x G5 y5)) ?_)
    rintro _ t6 ⟨τ6, G6, J6, q6⟩
    refine wpAny_passesOwn hp (thn (hb.run _ t6 τ6 G6 _ J6 q6) fun f t7 q7 => ?_)
    have next : ∀ {τ7 : L2.St} {G7 : Hp}, Inv X (pins ++ pinsAt fp t5.heap) τ7 G7 t7 → N τ7 G7 → ∃ m, m < n ∧ ∃ i τ G, Inv X pins τ G t7 ∧ tn i t7.heap ∧ (∀ b ∈ fp, G b = none) ∧ W i m τ G := by
      intro τ7 G7 J7 n7
      have pin : ∀ b ∈ fp, ∀ o, t5.heap.get? b = some o → t7.heap.get? b = some o ∧ G7 b = none := fun b hb o e =>
        have z := J7.pin (b, o) (List.mem_append_right _ (List.mem_append_right _ (mem_pinsAt hb e)))
        ⟨z.1, z.2.1⟩
      obtain ⟨m', hm, w7⟩ := hN τ7 G7 n7
      refine ⟨m', hm, i + 1, τ7, G7, J7.unpinned, T.keep _ _ _ tn5 fun b hb o e => (pin b hb o e).1, fun b hb => ?_, w7⟩
      obtain ⟨o, e, _⟩ := T.obj _ _ tn5 b hb
      exact (pin b hb o e).2
    cases f with
    | next => obtain ⟨τ7, G7, J7, z⟩ := q7; exact next J7 z
    | cont => obtain ⟨τ7, G7, J7, z⟩ := q7; exact next J7 z
    | brk => obtain ⟨τ7, G7, J7, z⟩ := q7; exact ⟨τ7, G7, J7.unpinned, z⟩
    | ret v => obtain ⟨x7, τ7, G7, J7, r7, z⟩ := q7; exact ⟨x7, τ7, G7, J7.unpinned, r7, z⟩
end
end Pv
set_option maxHeartbeats 1000000
/-! a list comprehension of three clauses -/
namespace Pv
open PySem PySem.Spec PyProof.Rows L2
section
variable {X : Cx} {s3 : Shared} {H3 : Hp} {scope : Scope} {ce : Env} {fp0 : List Addr}
abbrev BodyT := L2.St → Hp → (Hp → Prop) → Prop
/-- what one clause's loop wants: each turn the target's store, the tests, then the body, from which the next turn is reached -/
def tTurns (g : TG) (tt : TT) (bt : BodyT) (vs : List Nat) (J : It) (σ : L2.St) (H0 : Hp) (Nout : Hp → Prop) : Prop := ∃ W : Nat → Nat → Hp → Prop, (∃ m, W 0 m H0) ∧ ∀ i m H, W i m H →
  (J.stop i H ∧ Nout H) ∨ (J.go i H ∧ ∃ Nx : Hp → Prop, (∀ H', Nx H' → ∃ m', m' < m ∧ W (i + 1) m' H') ∧ ∀ x H', J.yld i H x H' → g x (wipe σ vs) H' fun σ2 H2 => wipe σ2 vs = wipe σ vs ∧ tt σ2 H2 fun b H3 => if b = true then bt σ2 H3 Nx else Nx H3)
def BodyOk (X : Cx) (s3 : Shared) (H3 : Hp) (scope : Scope) (ce : Env) (fp0 : List Addr) (vs : List Nat) (BODY : Sem Unit) (bt : BodyT) : Prop :=
  ∀ (pins : List (Addr × Obj)) (σ : L2.St) (s : Shared) (H : Hp) (Nx : Hp → Prop), Inv (X.blk s3 H3 scope ce fp0) pins σ H s → bt σ H Nx →
    wpAny (model X.prog X.w) X.A BODY (fun _ s' => ∃ H' σ', Inv (X.blk s3 H3 scope ce fp0) pins σ' H' s' ∧ σ'.length = σ.length ∧ (∀ (j : Nat) v, (wipe σ vs)[j]? = some (some v) → σ'[j]? = some (some v)) ∧ Nx H') (fun _ _ => False) s
/-- the innermost body: the element is appended -/
def btElt (te : TE) (D : Addr) : BodyT := fun σ H Nx => te σ H fun y H7 => ∃ acc, H7 D = some (.lst acc) ∧ acc.length < sizeLine ∧ Nx (upd H7 D (.lst (acc ++ [y])))
/-- the body that runs a further clause -/
def btNest (wi : TI) (g : TG) (tt : TT) (bt : BodyT) (vs : List Nat) : BodyT := fun σ H Nx => wi σ H fun J H4 => tTurns g tt bt vs J σ H4 Nx
end
end Pv
namespace Pv
open PySem PySem.Spec PyProof.Rows L2
section
variable {X : Cx}
def tLc3 (wi : TI) (g : TG) (tt : TT) (wi1 : TI) (g1 : TG) (tt1 : TT) (wi2 : TI) (g2 : TG) (tt2 : TT) (te : TE) (vs vs1 vs2 : List Nat) : TE := fun σ H Q => wi σ H fun J H1 => ∀ D, H1 D = none →
  tTurns g tt (btNest wi1 g1 tt1 (btNest wi2 g2 tt2 (btElt te D) vs2) vs1) vs J σ (upd H1 D (.lst [])) (fun H' => Q (.ref D) H')
end
end Pv
set_option maxHeartbeats 2000000
namespace Pv
open PySem PySem.Spec PyProof.Rows L2
/-! list comprehensions while an error is handled -/
section
variable {X : Cx} {x1 : Addr} {o1 : Obj} {tg iter elt : Expr} {ifs : List Expr} {scope : Scope} {own : List (Str × Nat)} {wi : TI} {g : TG} {tt : TT} {te : TE}
/-- a block's context, with what one knows of the error -/
def BlkW (X : Cx) (x1 : Addr) (o1 : Obj) (scope : Scope) (J : Cx → Prop) : Prop := ∀ (s : Shared) (H : Hp) (C : Addr) (cl : List (Str × Addr)) (fp : List Addr), HotS (X.blk s H scope (compEnvC scope cl C X.env) fp) x1 o1 → J (X.blk s H scope (compEnvC scope cl C X.env) fp)
theorem lcW {pins : List (Addr × Obj)} {s : Shared} {σ : L2.St} {H : Hp} {Q : VK} {pos pos' : Pos} {use : Option (Value → Sem Unit)} {Qf : Value → Shared → Prop} (hc : HotS X x1 o1) (nd : X.N.Nodup) (I : Inv X pins σ H s) (src : PIW X tg iter wi) (ok : BlkOk X.N X.env.scope scope own)
    (hg : BlkW X x1 o1 scope fun B => PG B tg g) (ht : BlkW X x1 o1 scope fun B => PTs B ifs tt) (he : BlkW X x1 o1 scope fun B => PE B elt te) (fo : ∀ x, foldedSetIterable iter X.env x = pure x) (h : tLc wi g tt te (own.map (·.2)) σ H Q)
    (out : ∀ D C t m G, Inv X pins σ G t → Q (.ref D) G → t.heap.Ns C m → FpOk X pins G C → compPost (model X.prog X.w) X.A X.xe use Qf (.ref D) C (.ok .next) t) :
    wpAny (model X.prog X.w) X.A (comprehension (.ListComp elt [⟨tg, iter, ifs, 0⟩] scope pos) scope X.env pos' (newList []) false (eval iter X.env) use) Qf X.xe s := by
  have fr : ∀ y ∈ scope.names, y.2 = .free → ∃ c, X.env.cells.lookup y.1 = some c := fun y hy e => I.ok.has _ (ok.free y hy e)
  refine wpAny_comprehension_free (use := use) rfl fo (closure_ok fr) ok.kind (fun y hy e => by rw [ok.uniq y hy, e]) (thn (src I h) fun _ t1 z => thn z ?_)
  rintro _ t2 ⟨it, fp, tn, J, H2, rfl, I2, T, tn2, f2, q⟩
  refine wpAny_newObj_type (newEnv_comp ?_) (by show 0 ≤ sizeLine; decide)
  have hDn : H2 t2.heap.objs.size = none := I2.hok.fresh (Nat.le_refl _)
  obtain ⟨W, ⟨m0, w0⟩, turn⟩ := q _ hDn
  have I3 : Inv X pins σ (upd H2 t2.heap.objs.size (.lst [])) { t2 with heap := t2.heap.push { cls := .type "list", data := .seq ([] : List Value).toArray } } :=
    I2.laid (t' := t2.toks) (fun b o e => Heap.get?_push_of_some _ e) (Nat.le_refl _) ⟨Nat.zero_le _, [], 0, .nil, Heap.get?_push_size _ rfl⟩
  have lt2 : ∀ b ∈ fp, b < t2.heap.objs.size := fun b hb => by
    obtain ⟨o, e, _⟩ := T.obj _ _ tn2 b hb
    exact Heap.lt_size e
  have tn3 : tn 0 (t2.heap.push { cls := .type "list", data := .seq ([] : List Value).toArray }) := T.keep _ _ _ tn2 fun b _ o e => Heap.get?_push_of_some _ e
  have f3 : ∀ b ∈ fp, FpOk X pins (upd H2 t2.heap.objs.size (.lst [])) b := fun b hb => ⟨by rw [upd_ne (Nat.ne_of_lt (lt2 b hb))]; exact (f2 b hb).1, (f2 b hb).2⟩
  have l3 : ∀ b ∈ fp, b < (t2.heap.push { cls := .type "list", data := .seq ([] : List Value).toArray }).objs.size := fun b hb => by
    rw [Heap.size_push]
    exact Nat.lt_succ_of_lt (lt2 b hb)
  generalize t2.heap.objs.size = D at I3 w0 turn f3
  generalize hs3 : ({ t2 with heap := t2.heap.push { cls := .type "list", data := .seq ([] : List Value).toArray } } : Shared) = t3 at I3
  rw [show t2.heap.push { cls := .type "list", data := .seq ([] : List Value).toArray } = t3.heap by rw [← hs3]] at tn3 l3
  generalize upd H2 D (.lst []) = H3 at I3 w0 f3
  have I4 := block_start I3 ok nd fun b hb => ⟨f3 b hb, l3 b hb⟩
  have hB := hotS_blk (scope := scope) (cenv := compEnvC scope (cellsFrom (t3.heap.objs.size + 1) scope.names (cloFrom X.env.cells scope.names [])) t3.heap.objs.size X.env) hc I3 f3 (Nat.le_refl _)
  have pg := hg _ _ _ _ _ hB
  have pt := ht _ _ _ _ _ hB
  have pe := he _ _ _ _ _ hB
  show codeAny _ _ (.compStart _ 0 (.ref it) (.ref D) (compEnvC scope (cellsFrom (t3.heap.objs.size + 1) scope.names (cloFrom X.env.cells scope.names [])) t3.heap.objs.size X.env)) (compPost (model X.prog X.w) X.A X.xe use Qf (.ref D) t3.heap.objs.size) { t3 with heap := pushCells (t3.heap.push { cls := .type "dict", data := .dict #[] }) scope.names }
  have cl : (compEnvC scope (cellsFrom (t3.heap.objs.size + 1) scope.names (cloFrom X.env.cells scope.names [])) t3.heap.objs.size X.env).locals = t3.heap.objs.size := rfl
  generalize compEnvC scope (cellsFrom (t3.heap.objs.size + 1) scope.names (cloFrom X.env.cells scope.names [])) t3.heap.objs.size X.env = ce at I4 pg pt pe hB cl ⊢
  have tn4 : tn 0 (pushCells (t3.heap.push { cls := .type "dict", data := .dict #[] }) scope.names) := T.keep _ _ _ tn3 fun b _ o e => pushCells_keeps _ _ _ _ (Heap.get?_push_of_some _ e)
  have no4 : ∀ b ∈ fp, H3 b = none := fun b hb => (f3 b hb).1
  have stat : ∀ {τ : L2.St} {G : Hp} {t : Shared}, Inv (X.blk t3 H3 scope ce fp) [] τ G t → (∀ b ∈ fp, G b = none) → ∀ b ∈ fp, FpOk (X.blk t3 H3 scope ce fp) [] G b := fun {τ G t} K1 no b hb =>
    ⟨no b hb, (K1.ok.exf b hb).1, K1.ok.exfs b hb, .inl hb, (K1.ok.exf b hb).2, fun p hp => absurd (show p ∈ ([] : List (Addr × Obj)) ++ [] from hp) (by simp)⟩
  refine (fun loop => codeAny_compStart_list loop (T.self X.A tn4 loop)) (compLoop_any (fun n t => ∃ i G, Inv (X.blk t3 H3 scope ce fp) [] (wipe σ (own.map (·.2))) G t ∧ tn i t.heap ∧ (∀ b ∈ fp, G b = none) ∧ W i n G) ?_ m0 ⟨0, H3, I4, tn4, no4, w0⟩)
  rintro n t5 ⟨i, G5, I5, tn5, no5, w5⟩
  rcases turn i n G5 w5 with ⟨stop, qq⟩ | ⟨go, Nx, hNx, step⟩
  · refine thnF (T.done (X.blk t3 H3 scope ce fp) x1 o1 rfl rfl rfl hB (E := fun _ _ => False) I5 (stat I5 no5) tn5 stop) ?_
    rintro r t6 ⟨rfl, I6⟩
    have z : G5 ce.locals = none := I6.free
    obtain ⟨m, hn, _⟩ := I6.loc
    have hn : t6.heap.Ns ce.locals m := hn
    rw [cl] at z hn
    exact out D _ t6 m G5 (I3.call' (ch := fp) I6.os I6.base I6.hok I6.bare fun b hb => ⟨(f3 b hb).2.2.2.1, (f3 b hb).2.1, (f3 b hb).2.2.2.2.1, (f3 b hb).2.2.2.2.2⟩) qq hn (I3.fpOk (Nat.le_refl _) z)
  · refine thnF (T.item (X.blk t3 H3 scope ce fp) x1 o1 rfl rfl rfl hB (E := fun _ _ => False) I5 (stat I5 no5) tn5 go) ?_
    rintro r t6 ⟨u, rfl, z6⟩
    refine thnF z6 ?_
    rintro _ t7 ⟨y, G7, I7, r7, y7, tn7, no7⟩
    refine thnF (pg.run _ t7 _ G7 y u _ (I7.pinned (stat I7 no7) (T.obj _ _ tn7)) r7 (step y G7 y7)) ?_
    rintro _ t8 ⟨τ8, G8, I8, hw8, q8⟩
    refine thnF (pt.run _ t8 τ8 G8 _ I8 q8) ?_
    rintro b t9 ⟨G9, I9, q9⟩
    have fin : ∀ {t : Shared} {G : Hp}, Inv (X.blk t3 H3 scope ce fp) ([] ++ pinsAt fp t7.heap) τ8 G t → Nx G → ∃ m, m < n ∧ ∃ i G, Inv (X.blk t3 H3 scope ce fp) [] (wipe σ (own.map (·.2))) G t ∧ tn i t.heap ∧ (∀ b ∈ fp, G b = none) ∧ W i m G := by
      intro t G K1 nx
      obtain ⟨m', hm, w'⟩ := hNx G nx
      have pin : ∀ b ∈ fp, ∀ o, t7.heap.get? b = some o → t.heap.get? b = some o ∧ G b = none := fun b hb o e =>
        have z := K1.pin (b, o) (List.mem_append_right _ (List.mem_append_right _ (mem_pinsAt hb e)))
        ⟨z.1, z.2.1⟩
      refine ⟨m', hm, i + 1, G, (K1.unpinned (pins := [])).weak (by rw [← hw8, wipe_length]) (fun j v e => ?_), T.keep _ _ _ tn7 fun b hb o e => (pin b hb o e).1, fun b hb => ?_, w'⟩
      · rw [← hw8] at e
        exact (wipe_some e).1
      · obtain ⟨o, e, _⟩ := T.obj _ _ tn7 b hb
        exact (pin b hb o e).2
    cases b with
    | false =>
      rw [if_neg (by decide)] at q9 ⊢
      exact fin I9 q9
    | true =>
      rw [if_pos rfl] at q9 ⊢
      refine thnF (pe.run _ t9 τ8 G9 _ I9 q9) ?_
      rintro z t10 ⟨yv, G10, I10, r10, acc, hD, hz, nx⟩
      exact app_ok (X := X.blk t3 H3 scope ce fp) I10 hD hz r10 fun t11 I11 => fin I11 nx
theorem pe_lcW {pos : Pos} (hc : HotS X x1 o1) (nd : X.N.Nodup) (src : PIW X tg iter wi) (ok : BlkOk X.N X.env.scope scope own) (hg : BlkW X x1 o1 scope fun B => PG B tg g) (ht : BlkW X x1 o1 scope fun B => PTs B ifs tt) (he : BlkW X x1 o1 scope fun B => PE B elt te)
    (fo : ∀ x, foldedSetIterable iter X.env x = pure x := by intro _; rfl) : PE X (.ListComp elt [⟨tg, iter, ifs, 0⟩] scope pos) (tLc wi g tt te (own.map (·.2))) := by
  constructor
  intro pins s σ H Q I h
  rw [eval_ListComp]
  refine lcW hc nd I src ok hg ht he fo h fun D C t m G J q hn f => ⟨m, hn, fun h'' sb => ⟨.ref D, G, ?_, rfl, q⟩⟩
  exact J.turned (t' := t.toks) (fun b o hb e => (sb.2 b hb).trans e) f.1 f.2.1 f.2.2.2.1 f.2.2.2.2.1 f.2.2.2.2.2
theorem ps_setLcW {i : Nat} {y : Str} {py pos spos : Pos} (hc : HotS X x1 o1) (nd : X.N.Nodup) (hy : X.N[i]? = some y) (hyl : X.env.scope.names.lookup y = some .local)
    (hsw : swapsWith (.ListComp elt [⟨tg, iter, ifs, 0⟩] scope pos) (some (.Name y py)) spos.line X.env = pure true) (src : PIW X tg iter wi) (ok : BlkOk X.N X.env.scope scope own) (hg : BlkW X x1 o1 scope fun B => PG B tg g) (ht : BlkW X x1 o1 scope fun B => PTs B ifs tt) (he : BlkW X x1 o1 scope fun B => PE B elt te)
    (fo : ∀ x, foldedSetIterable iter X.env x = pure x := by intro _; rfl) : PS X (.Assign [.Name y py] (.ListComp elt [⟨tg, iter, ifs, 0⟩] scope pos) spos) (tAsg (tLc wi g tt te (own.map (·.2))) (gName i)) := by
  constructor
  intro pins s σ H D I h
  rw [exec_Assign_Name_used _ _ _ _ hsw]
  refine wpAny_bind (wpAny_standAt (wpAny_bind ?_))
  show wpAny _ X.A (do let _ ← comprehension (.ListComp elt [⟨tg, iter, ifs, 0⟩] scope pos) scope X.env (firstIterPos [⟨tg, iter, ifs, 0⟩] pos) (newList []) false (eval iter X.env) (some (assign (.Name y py) X.env))) _ _ s
  refine wpAny_bind (thn (lcW (Qf := fun _ t => SP X pins D .next t) hc nd I src ok hg ht he fo (show tLc wi g tt te (own.map (·.2)) σ H (fun x H1 => gName i x σ H1 D.nx) from h) fun L C t m G J q hn f => ?_) fun _ t hq => wpAny_pure (wpAny_pure hq))
  refine wpAny_assign_Name (store_ok2 (v := V.ref L) J nd hy (.inl hyl) rfl (fun t2 J2 ⟨a, sb, ha⟩ => ?_) (.inr hyl))
  have haC : C ≠ a := ha.elim (fun z => z ▸ f.2.1) fun z e => f.2.2.2.2.1 y a z e.symm
  exact ⟨m, hn.sameBut sb haC, fun h3 sb3 => ⟨_, G, J2.turned (t' := t2.toks) (fun b o hb e => (sb3.2 b hb).trans e) f.1 f.2.1 f.2.2.2.1 f.2.2.2.2.1 f.2.2.2.2.2, q⟩⟩
end
end Pv
set_option maxHeartbeats 8000000
namespace Pv
open PySem PySem.Spec PyProof.Rows L2
/-! builtins and unpacking while an error is handled -/
section
variable {P : Program} {w : World} {A : Around} {E : Value → Shared → Prop} {s : Shared} {a l x1 : Addr} {o1 : Obj} {es : Array (Int × Value)} {ep : Nat} {t : SetTable}
theorem collectSetW {Q : List Value → Shared → Prop} (c : HotO A x1 o1) (e1 : s.heap.get? x1 = some o1) (ha : SetAt s.heap a es ep t) (hf : t.fits es.size = true) (hsz : es.size < scanBound) (r : Ris t.place.toList) (hl : w.params.followText "set-order" = true ∨ t.led = true)
    (hQ : ∀ s' out, (∀ b o, s.heap.get? b = some o → s'.heap.get? b = some o) → s.heap.objs.size ≤ s'.heap.objs.size → s'.gens = s.gens → s'.os = s.os → out.Perm (es.toList.map (·.2)) → Q out s') : wpAny (model P w) A (collect (.ref a)) Q E s := by
  obtain ⟨o, ho, hc, hd⟩ := id ha
  have la := Heap.lt_size ho
  have lx := Heap.lt_size e1
  have nSa : s.heap.objs.size ≠ a := Nat.ne_of_gt la
  unfold collect; refine wpAny_bind (wpAny_runValue (codeAny_builtin F.entry_proto_collect ?_))
  rw [Around.under_plainId F.plain_proto_collect _]
  show wpAny _ A.in1 (newList [] >>= fun l => again (.builtin "list.__iadd__" ⟨[l, .ref a], []⟩)) _ _ s; refine wpAny_bind (wpAny_newObj_type (wpAny_pure ⟨plainId_quiet F.plain_list_iadd _, codeAny_builtin F.entry_list_iadd ?_⟩))
  rw [Around.under_plainId F.plain_list_iadd _]
  have kp : ∀ b u, s.heap.get? b = some u → (s.heap.push { cls := .type "list", data := .seq ([] : List Value).toArray }).get? b = some u := fun b u e => Heap.get?_push_of_some _ e
  have gS : (s.heap.push { cls := .type "list", data := .seq ([] : List Value).toArray }).get? s.heap.objs.size = some { cls := .type "list", data := .seq ([] : List Value).toArray } := Heap.get?_push_size _ rfl
  have z1 : (s.heap.push { cls := .type "list", data := .seq ([] : List Value).toArray }).objs.size = s.heap.objs.size + 1 := size_push' _ _
  show wpAny _ A.in1 (Builtin.List.listExtendWith (.ref s.heap.objs.size) (.ref a) (.ref s.heap.objs.size)) _ _ _; unfold Builtin.List.listExtendWith; refine wpAny_bind (wpAny_typeOf (T := "set") ⟨o, kp _ _ ho, hc⟩ ?_)
  simp only [show Builtin.List.listSameRef (.ref s.heap.objs.size) (.ref a) = false by simp [Builtin.List.listSameRef, nSa], show (Value.type "set" == Value.type "list") = false by decide, show (Value.type "set" == Value.type "tuple") = false by decide, Bool.or_false, Bool.false_eq_true, if_false]
  refine wpAny_bind (iterSetW (s := { s with heap := s.heap.push { cls := .type "list", data := .seq ([] : List Value).toArray } }) (kp _ _ e1) (ha.at fun u e => kp _ _ e) hf hsz r hl fun s₂ I hit => ?_)
  obtain ⟨fp, St, out, n, Pv, k2, g2, o2, hI, hfp, hp, hn, hW, hPv, hst⟩ := hit
  have hI' : s.heap.objs.size + 1 ≤ I := by rw [← z1]; exact hI
  have nSf : s.heap.objs.size ∉ fp := fun hm => by
    rcases hfp _ hm with z | z | z
    · exact nSa z
    · exact absurd lx (by rw [← z]; exact Nat.lt_irrefl _)
    · exact absurd (show s.heap.objs.size + 1 ≤ s.heap.objs.size by rw [← z1]; exact z) (Nat.not_succ_le_self _)
  have T2 : s₂.TypeIs (.ref a) "set" := ⟨o, k2 a o (kp _ _ ho), hc⟩
  refine wpAny_bind (wpAny_holding ?_); unfold Builtin.List.listLengthHint; refine wpAny_bind (wpAny_specialOf T2 F.slot_set_len.lookup ?_)
  (generalize hid : ("set.__len__" : String) = id0; (fail_if_success (clear hid id0)); wp_delta; rw [show splitId id0 = some ("set", "__len__") from by subst hid; decide +kernel]; subst hid)
  refine wpAny_bind (wpAny_isInstance (b := true) T2 sub_set_self ?_); show wpAny _ A.in1 (typeOf (.ref a) >>= _) _ _ _; refine wpAny_bind (wpAny_typeOf T2 (wpAny_pure ?_))
  show wpAny _ A.in1 (rule "list.extend.makes-room" >>= fun _ => Builtin.List.listTouch (.ref s.heap.objs.size) >>= fun _ => again (.builtin "list.extend.loop" ⟨[.ref s.heap.objs.size, .ref I, .ref s.heap.objs.size], []⟩)) _ _ _; refine wpAny_bind (wpAny_rule (wpAny_bind ?_))
  have gS2 := k2 _ _ gS
  have gS3 := Heap.get?_update_self (Obj.mapSeq (·.push Value.none)) gS2 rfl
  show wpAny _ A.in1 (updateSeq s.heap.objs.size (·.push .none) >>= fun _ => updateSeq s.heap.objs.size (·.pop)) _ _ _; refine wpAny_bind (wpAny_updateSeq gS2 rfl (wpAny_updateSeq gS3 rfl ?_))
  have oth : ∀ b u, b ≠ s.heap.objs.size → s₂.heap.get? b = some u → ((s₂.heap.update s.heap.objs.size (Obj.mapSeq (·.push Value.none))).update s.heap.objs.size (Obj.mapSeq (·.pop))).get? b = some u := fun b u hb e => by
    rw [Heap.get?_update_other _ _ (Ne.symm hb), Heap.get?_update_other _ _ (Ne.symm hb)]; exact e
  have W := hW A.in1 c.in1
  have st2 := W.frame 0 _ _ hst fun b hb u e => oth b u (fun z => nSf (z ▸ hb)) e
  subst hn
  refine wpAny_pure ⟨plainId_quiet F.plain_extend_loop _, codeAny_extend_loopS W.toS ?_ _ nSf _ out.length 0 _ _ _ rfl (Nat.zero_le _) st2 (Heap.get?_update_self (Obj.mapSeq (·.pop)) gS3 rfl) (ItemsOf.nil Pv) fun s' acc' c' hm hS' hacc => ?_⟩
  · rw [hp.length_eq, List.length_map, Array.length_toList]
    exact fits_of_scanBound hsz
  · show wpAny _ A (load s.heap.objs.size >>= _) _ _ s'; refine wpAny_bind (wpAny_load hS' (wpAny_pure ?_))
    show Q acc'.toList s'
    rw [items_out hacc hPv]
    refine hQ s' out (fun b u e => ?_) (Nat.le_of_lt (Heap.lt_size hS')) (Eq.trans hm.gens g2) (Eq.trans hm.os o2) hp
    have hb := Heap.lt_size e
    refine hm.heap b u (fun z => ?_) (oth b u (Nat.ne_of_lt hb) (k2 b u (kp _ _ e)))
    simp only [List.mem_cons, List.not_mem_nil, or_false] at z
    rcases z with z | z
    · exact absurd hb (by rw [z]; exact Nat.lt_irrefl _)
    · exact absurd hb (by rw [z]; exact Nat.not_lt_of_le (Nat.le_of_succ_le hI'))
theorem sortedSetW {S : Int → Bool} {n : Nat} {Q : Value → Shared → Prop} (c : HotO A x1 o1) (e1 : s.heap.get? x1 = some o1) (R : SetR w s.heap a S n) (h64 : n < 64)
    (hQ : ∀ s' p (out : Array Value) (c : Nat) (ns : List Int), (∀ b o, s.heap.get? b = some o → s'.heap.get? b = some o) → s'.gens = s.gens → s'.os = s.os → s.heap.objs.size ≤ p → s'.heap.get? p = some (seqObj "list" out c) → IntsAre out.toList ns → ns.Pairwise (· < ·) → (∀ k, k ∈ ns ↔ S k = true) → ns.length = n → Q (.ref p) s') :
    wpAny (model P w) A (call (.builtin "sorted") [.ref a]) Q E s := by
  obtain ⟨o, es, ep, t, ho, hex, hd, g, nd, hm, hb, hf, hn, hr, hl⟩ := R
  refine Calls.call_function_entry kind_sorted plain_sorted entry_sorted (args_sorted1 _) ?_
  unfold Builtin.«sorted»; refine wpAny_bind (m := checkCount "sorted" 1 1 _) (wpAny_pure (wpAny_bind (collectSetW (A := A.in1) c.in1 e1 ⟨o, ho, hex.1, hd⟩ hf hb hr hl fun s1 vs k1 hz g1 q1 pm => ?_)))
  have hvl : vs.length = n := by rw [pm.length_eq, List.length_map, Array.length_toList]; exact hn
  have hI : IntsAre vs (vs.map Builtin.Re.reRawOf) := ints_of vs fun v hv => by
    obtain ⟨e, he, q⟩ := List.mem_map.mp (pm.mem_iff.mp hv)
    obtain ⟨k, tk, z, _⟩ := g e he
    exact ⟨k, tk, q ▸ z⟩
  have pk : (vs.map Builtin.Re.reRawOf).Perm (es.toList.map keyOf) := by
    have q := pm.map Builtin.Re.reRawOf
    rwa [List.map_map] at q
  have gL : (s1.heap.push (seqObj "list" vs.toArray 0)).get? s1.heap.objs.size = some (seqObj "list" vs.toArray 0) := Heap.get?_push_size _ rfl
  refine wpAny_bind (wpAny_newList (wpAny_bind (wpAny_holding (wpAny_call_entry slot_list_sort ⟨_, gL, rfl⟩ entry_list_sort (list_sort_tree gL hI (by rw [hvl]; exact h64) fun out ns' a1 a2 a3 => ⟨_, rfl, ?_⟩) (args_list_sort _)))) (by rw [hvl, sizeLine_eq]; omega))
  obtain ⟨cc, hcc⟩ := sortedHeap_at (vs := vs) (out := out) gL
  have pn := a2.trans pk
  refine wpAny_pure ⟨_, rfl, hQ _ s1.heap.objs.size out cc ns' (fun b u e => ?_) g1 q1 hz hcc a1 (lt_of_le_nodup ns' a3 (pn.nodup_iff.mpr nd)) (fun k => by rw [pn.mem_iff, ← hm k]) (by rw [pn.length_eq, List.length_map, Array.length_toList]; exact hn)⟩
  have q := k1 b u e
  have lt := Heap.lt_size q
  show (sortedHeap (s1.heap.push (seqObj "list" vs.toArray 0)) s1.heap.objs.size vs out).get? b = some u
  rw [sortedHeap_old (Nat.ne_of_lt lt) (by rw [size_push']; exact Nat.lt_succ_of_lt lt)]
  exact Heap.get?_push_of_some _ q
end
section
variable {X : Cx} {x1 : Addr} {o1 : Obj}
theorem cr_sortedSetW (hc : HotS X x1 o1) : CallR X (.builtin "sorted") (rSortedSet X.w) := by
  intro pins s σ H vs us Q I r h
  obtain ⟨a, S, n, rfl, ha, h64, q⟩ := h
  rw [Vals.ref1 r]
  refine sortedSetW hc.c (hc.at_ I).1 (setO_get I ha) h64 fun s' p out c ns k g o hp hg hi hs hm hl => ?_
  have nn : H p = none := I.hok.fresh hp
  have ln : (ns.map V.int).length ≤ sizeLine := by rw [List.length_map, hl, sizeLine_eq]; omega
  have J : Inv X pins σ (upd H p (.lst (ns.map V.int))) { s with heap := s'.heap, gens := s'.gens, drawn := s'.drawn, toks := s'.toks } := I.call (ch := []) (Un.laid k hp nn) (I.hok.laid k hp ⟨ln, out.toList, c, vals_of_ints hi, hg⟩) (by rw [g]; exact I.bare) (fun _ z => nomatch z)
  obtain ⟨h2, g2, d2, t2, o2⟩ := s'
  obtain ⟨h0, g0, d0, t0, o0⟩ := s
  cases o
  exact ⟨.ref p, _, J, rfl, q ns p hs hm hl nn⟩
end
end Pv
set_option maxHeartbeats 8000000
namespace Pv
open PySem PySem.Spec PyProof.Rows L2
section
variable {prog : Program} {w : World} {A : Around} {E : Value → Shared → Prop} {s : Shared} {l x1 : Addr} {o1 : Obj} {its : List Value} {ns : List Int}
theorem sumRawW {Q : Value → Shared → Prop} (c : HotO A x1 o1) (e1 : s.heap.get? x1 = some o1) (hl : s.heap.IsList l its.toArray) (hi : IntsAre its ns)
    (h : ∀ h' tk t', (∀ b o, s.heap.get? b = some o → h'.get? b = some o) → Q (.int ns.sum t') { s with heap := h', toks := tk }) : wpAny (model prog w) A (call (.builtin "sum") [.ref l]) Q E s := by
  obtain ⟨xs, e⟩ := hi.allInts.items
  have hn : numsOf (intItems xs).toList = ns := by rw [← e]; exact hi.numsOf
  rw [nums_intItems] at hn
  rw [e] at hl
  have lx := Heap.lt_size e1
  refine call_sum_walkG (iter_intList hl ?_)
  rintro _ rfl st hfp hlI
  refine ⟨_, _, _, _, _, _, numAt xs, rfl, walksLW c.in1 _ l hlI (Nat.ne_of_lt lx) (intItems xs), ⟨st.1, st.2, Heap.get?_push_of_some _ e1⟩, fun b hb => ?_, fun _ _ => intItems_at, fun h' tk t' hk => ?_⟩
  · simp only [List.mem_cons, List.not_mem_nil, or_false] at hb
    rcases hb with z | z | z
    · exact hfp b (by simp [z])
    · exact hfp b (by simp [z])
    · rw [z]; exact Heap.lt_size (Heap.get?_push_of_some _ e1)
  · have q := h h' tk t' (old_kept hk)
    rw [show ns.sum = preSum (numAt xs) (intItems xs).size by rw [preSum_eq, List.take_of_length_le (by simp [intItems]), hn]] at q
    exact q
theorem max2W {a b : Int} {t u : Tok} {Q : Value → Shared → Prop} (c : HotO A x1 o1) (e1 : s.heap.get? x1 = some o1)
    (h : ∀ h' tk, (∀ c o, s.heap.get? c = some o → h'.get? c = some o) → Q (if b > a then .int b u else .int a t) { s with heap := h', toks := tk }) : wpAny (model prog w) A (call (.builtin "max") [.int a t, .int b u]) Q E s := by
  have hT : (s.heap.push { cls := .type "tuple", data := .seq #[.int a t, .int b u] }).IsTuple s.heap.objs.size (intItems #[(a, t), (b, u)]) := ⟨_, Heap.get?_push_size _ rfl, rfl, 0, by simp [intItems]⟩
  have z : (s.heap.push { cls := .type "tuple", data := .seq #[.int a t, .int b u] }).objs.size = s.heap.objs.size + 1 := Heap.size_push ..
  have lx := Heap.lt_size e1
  have k2 : ∀ c o, s.heap.get? c = some o → ((s.heap.push { cls := .type "tuple", data := .seq #[.int a t, .int b u] }).push { cls := .type "tuple_iterator", data := .fields #[.ref s.heap.objs.size, .int 0 0] }).get? c = some o := fun c o e => Heap.get?_push_of_some _ (Heap.get?_push_of_some _ e)
  refine call_max_two (wpAny_pyIter_tuple hT ⟨_, [_, s.heap.objs.size, x1], [_], _, _, _, _, rfl, walksTW c.in1 _ s.heap.objs.size (by rw [z]; exact Nat.ne_of_lt (Nat.lt_succ_self _)) (by rw [z]; exact Nat.ne_of_lt (Nat.lt_succ_of_lt lx)) (intItems #[(a, t), (b, u)]),
    ⟨⟨_, Heap.get?_push_size _ rfl, rfl, rfl⟩, hT.push _, k2 _ _ e1⟩, fun d hd => ?_, by simp [intItems], CmpOf.ints_gt (numAt #[(a, t), (b, u)]) (fun _ _ => intItems_at), fun v h' tk hP hk => ?_⟩)
  · show d < ((s.heap.push _).push _).objs.size
    rw [Heap.size_push, z]
    simp only [List.mem_cons, List.not_mem_nil, or_false] at hd
    rcases hd with rfl | rfl | rfl
    · rw [z]; exact Nat.lt_succ_self _
    · exact Nat.lt_succ_of_lt (Nat.lt_succ_self _)
    · exact Nat.lt_succ_of_lt (Nat.lt_succ_of_lt lx)
  · have q := h h' tk fun d o e => hk d o (fun hm => by
      have lt := Heap.lt_size e
      rw [List.mem_singleton.mp hm, z] at lt
      exact absurd lt (Nat.not_lt_of_le (Nat.le_succ _))) (k2 d o e)
    have hP' : (intItems #[(a, t), (b, u)])[argBest (fun i j => decide (numAt #[(a, t), (b, u)] i > numAt #[(a, t), (b, u)] j)) 1]? = some v := by
      rw [← show (intItems #[(a, t), (b, u)]).size - 1 = 1 by simp [intItems]]; exact hP
    by_cases hba : b > a
    · rw [show argBest (fun i j => decide (numAt #[(a, t), (b, u)] i > numAt #[(a, t), (b, u)] j)) 1 = 1 by simp [argBest, numAt, hba]] at hP'
      rw [if_pos hba] at q
      have ev : v = .int b u := by simpa [intItems] using hP'.symm
      rw [ev]; exact q
    · rw [show argBest (fun i j => decide (numAt #[(a, t), (b, u)] i > numAt #[(a, t), (b, u)] j)) 1 = 0 by simp [argBest, numAt, hba]] at hP'
      rw [if_neg hba] at q
      have ev : v = .int a t := by simpa [intItems] using hP'.symm
      rw [ev]; exact q
end
section
variable {X : Cx} {x1 : Addr} {o1 : Obj}
theorem cr_sumW (hc : HotS X x1 o1) : CallR X (.builtin "sum") (rSum X.K) := by
  intro pins s σ H vs us Q I r h
  obtain ⟨a, ns, rfl, hs, q⟩ := h
  obtain ⟨its, rv, hl, _⟩ := I.list hs
  rw [Vals.ref1 r]
  exact sumRawW hc.c (hc.at_ I).1 hl.isList rv.ints fun h' tk t' hk => ⟨.int _, H, I.kept hk, ⟨_, rfl⟩, q⟩
theorem call_max2W (hc : HotS X x1 o1) : CallR X (.builtin "max") (fun xs H Q => ∃ i j, xs = [.int i, .int j] ∧ Q (.int (if j > i then j else i)) H) := by
  intro pins s σ H xs us Q I r h
  obtain ⟨i, j, rfl, q⟩ := h
  obtain ⟨u, w', rfl, ⟨t, rfl⟩, ⟨t', rfl⟩⟩ := vals2 r
  refine max2W hc.c (hc.at_ I).1 fun h' tk k => ⟨_, H, I.kept k, ?_, q⟩
  split <;> exact ⟨_, rfl⟩
theorem pg_tupW {es : List Expr} {k : Nat} {t : TGs} {n : Nat} {pos : Pos} (hc : HotS X x1 o1) (h : PGs X es t) (hn : (assignEach es X.env).length = n := by rfl) (hst : (assignEach es X.env).findIdx? (·.1) = none := by rfl) : PG X (.Tuple es k pos) (gTup X.K n t) := by
  constructor
  rintro pins s σ H v u Q I r ⟨a, xs, rfl, hq, hl, hw⟩
  obtain rfl : u = Value.ref a := r
  obtain ⟨its, rv, ht, _⟩ := I.tuple hq
  rw [assign_Tuple]
  refine wpAny_bind (wpAny_standAt ?_)
  unfold unpack
  rw [show (assignEach es X.env).length = its.toArray.size by simp [hn, ← hl, rv.length], hst]
  refine wpAny_bind (wpAny_holding (unpackHot (hc.hot I) ht fun h' hx => ?_))
  exact h.run pins { s with heap := h' } σ H xs _ Q (I.kept (t' := s.toks) fun b o e => hx b o (Nat.ne_of_lt (Heap.lt_size e)) e) (by simpa using rv) hw
end
end Pv
set_option maxHeartbeats 8000000
namespace Pv
open PySem PySem.Spec PyProof.Rows L2
/-! set(t) of a tuple of ints while an error is handled -/
abbrev newSet (w : World) : Obj := { cls := .type "set", dict := none, data := .set #[] 0 (.fresh 0 0 (!w.params.followText "set-order")) }
section
variable {P : Program} {w : World} {A : Around} {E : Value → Shared → Prop} {s : Shared} {l x1 : Addr} {o1 : Obj} {items : Array Value} {ns : List Int}
theorem setTupW {Q : Value → Shared → Prop} (c : HotO A x1 o1) (e1 : s.heap.get? x1 = some o1) (hl : s.heap.IsTuple l items) (hit : IntsAre items.toList ns) (hb : ns.length + 1 < scanBound)
    (h : ∀ (h' : Heap) (tk c : Nat), SetR w h' s.heap.objs.size (fun j => decide (j ∈ ns)) c → c ≤ ns.length → (∀ b o, s.heap.get? b = some o → h'.get? b = some o) → Q (.ref s.heap.objs.size) { s with heap := h', toks := tk }) :
    wpAny (model P w) A (call (.type "set") [.ref l]) Q E s := by
  have hisz : items.size = ns.length := by rw [← IntsAre.length hit, Array.length_toList]
  have lx := Heap.lt_size e1
  obtain ⟨cc, tl, hmro⟩ := F.called_set.mro
  have hmade := F.called_set.made
  have hsub := F.called_set.sub
  refine wpAny_call (codeAny_of_tree ?_)
  show wpAny _ _ (callAny (.type "set") _) _ _ _; refine wpAny_pure ⟨Code.quiet_builtin _ (by decide +kernel), codeAny_builtin F.entry_type_call ?_⟩
  rw [Around.under_plain (weight_type_call_type "set" [.ref l] []) rfl]
  have t1 := F.called_set.notType
  have t2 := F.called_set.canCreate
  have t3 := F.typeCall_set_1 (.ref l)
  repeat (any_goals (first | assumption | wp_step))
  refine codeAny_mono (code_set_led1 (.ref l) (E := E) (Q₁ := fun obj s₁ => obj = .ref s.heap.objs.size ∧ s₁ = { s with heap := s.heap.push (newSet w) }) ⟨rfl, rfl⟩) ?_
  rintro (e | fl) s₁ hr
  · exact hr
  cases fl with
  | next => exact hr.elim
  | brk => exact hr.elim
  | cont => exact hr.elim
  | ret obj =>
    obtain ⟨rfl, rfl⟩ := hr
    have gS : (s.heap.push (newSet w)).get? s.heap.objs.size = some (newSet w) := Heap.get?_push_size _ rfl
    have hT : Shared.TypeIs { s with heap := s.heap.push (newSet w) } (.ref s.heap.objs.size) "set" := ⟨_, gS, rfl⟩
    have hli := F.called_set.init.lookup
    have hbi := F.called_set.init.bind (.ref s.heap.objs.size)
    repeat (any_goals (first | assumption | wp_step))
    refine codeAny_mono (codeAny_call_builtin (R := wants (fun r s₂ => r = .none ∧ ∃ h' tk c, s₂ = { s with heap := h', toks := tk } ∧ SetR w h' s.heap.objs.size (fun j => decide (j ∈ ns)) c ∧ c ≤ ns.length ∧ (∀ b o, s.heap.get? b = some o → h'.get? b = some o)) E) F.called_set.init.plain F.entry_set_init (check_set_init_1 hT ?_)) ?_
    · obtain ⟨⟨ocls, odict, odata, oslots⟩, hol, hcl, nl, hdl⟩ := hl
      simp only at hcl hdl
      subst hcl hdl
      have kp : ∀ b o, s.heap.get? b = some o → (s.heap.push (newSet w)).get? b = some o := fun b o e => Heap.get?_push_of_some _ e
      have hol' : (s.heap.push (newSet w)).get? l = some { cls := .type "tuple", dict := odict, data := .seq items nl, slots := oslots } := kp _ _ hol
      have sub1 := F.sub_tuple_set
      have sub2 := F.sub_tuple_frozenset
      have nd : (Value.type "tuple" == Value.type "dict") = false := by decide
      have hl1 : (s.heap.push (newSet w)).IsTuple l items := ⟨_, hol', rfl, nl, rfl⟩
      unfold Builtin.«set.__init__» noKeywords Builtin.Frozenset.updateFrom
      generalize hPI : pyIter = PI
      wp_walk
      subst hPI
      refine wpAny_pyIter_tuple hl1 (wpAny_bind (wpAny_runValue ?_))
      have ll := Heap.lt_size hol
      have z1 : (s.heap.push (newSet w)).objs.size = s.heap.objs.size + 1 := Heap.size_push ..
      have c3 : HotO A.in1.in1.in1 x1 o1 := c.in1.in1.in1
      have nS : s.heap.objs.size ∉ [(s.heap.push (newSet w)).objs.size, l, x1] := by
        rw [z1]
        simp only [List.mem_cons, List.not_mem_nil, or_false, not_or]
        exact ⟨Nat.ne_of_lt (Nat.lt_succ_self _), Nat.ne_of_gt ll, Nat.ne_of_gt lx⟩
      have val : ∀ (i : Nat) (v : Value), items[i]? = some v → ∃ k t, ns[i]? = some k ∧ v = .int k t := fun i v hv => by
        have hi : i < ns.length := by rw [← hisz]; exact (Array.getElem?_eq_some_iff.mp hv).1
        obtain ⟨t, e⟩ := PyProof.Rows.IntsAre.int_at hit i v (by rw [Array.getElem?_toList]; exact hv)
        exact ⟨ns[i], t, List.getElem?_eq_getElem hi, by rw [e, List.getD_eq_getElem?_getD, List.getElem?_eq_getElem hi] <;> rfl⟩
      refine set_update_ints ((walksTW c3 _ l (by rw [z1]; exact Nat.ne_of_lt (Nat.lt_succ_of_lt ll)) (by rw [z1]; exact Nat.ne_of_lt (Nat.lt_succ_of_lt lx)) items).toS) s.heap.objs.size nS ns hisz hb val (items.size - 0) 0 _ (by omega) (Nat.zero_le _)
        ⟨⟨_, Heap.get?_push_size _ rfl, rfl, rfl⟩, hl1.push _, Heap.get?_push_of_some _ (kp _ _ e1)⟩ ⟨0, Nat.le_refl 0, setR_new_at (Heap.get?_push_of_some _ gS)⟩ ?_
      rintro ⟨h', g2, d', tk', os'⟩ c' hm hc' hS'
      obtain rfl : g2 = s.gens := hm.gens
      obtain rfl : d' = s.drawn := hm.drawn
      obtain rfl : os' = s.os := hm.os
      rw [hisz] at hc'
      show wpAny _ _ _ _ _ _; refine wpAny_pure ?_
      show wpAny _ _ (ret Value.none) _ _ _; refine wpAny_pure ⟨rfl, h', tk', c', rfl, hS', hc', fun b o e => ?_⟩
      have lb := Heap.lt_size e
      refine hm.heap b o (fun z => ?_) (Heap.get?_push_of_some _ (kp _ _ e))
      simp only [List.mem_cons, List.not_mem_nil, or_false] at z
      rcases z with z | z
      · exact absurd lb (by rw [z]; exact Nat.lt_irrefl _)
      · rw [z1] at z
        exact absurd lb (by rw [z]; exact Nat.not_lt_of_le (Nat.le_succ _))
    · rintro (e | fl₂) s₂ hr₂
      · exact hr₂
      cases fl₂ with
      | next => exact hr₂.elim
      | brk => exact hr₂.elim
      | cont => exact hr₂.elim
      | ret r =>
        obtain ⟨rfl, h', tk, c', rfl, hS', hc', hk'⟩ := hr₂
        repeat (any_goals (first | assumption | wp_step))
        exact h _ _ _ hS' hc' hk'
end
section
variable {X : Cx} {x1 : Addr} {o1 : Obj}
theorem cr_setTW (hc : HotS X x1 o1) : CallR X (.type "set") (rSetT X.w X.K) := by
  intro pins s σ H vs us Q I rel h
  obtain ⟨a, ns, rfl, hs, h60, q⟩ := h
  obtain ⟨its, rv, ht, _⟩ := I.tuple hs
  rw [Vals.ref1 rel]
  have hsb : scanBound > 61 := by decide
  refine setTupW hc.c (hc.at_ I).1 (show s.heap.IsTuple a its.toArray from ht) (by simpa using rv.ints) (by omega) fun h' tk c R hcn kp => ?_
  have nn := I.hok.fresh (Nat.le_refl s.heap.objs.size)
  refine ⟨.ref s.heap.objs.size, _, I.laid (a := s.heap.objs.size) (o := SetO X.w s.heap.objs.size (fun j => decide (j ∈ ns)) c) (t' := tk) kp (Nat.le_refl _) (setO_new R), rfl, q _ c nn ?_ hcn⟩
  obtain ⟨o, es, ep, t, _, _, _, _, nd, hm, _, _, hn, _⟩ := R
  exact ⟨es.toList.map keyOf, nd, fun k => by rw [← hm k]; simp, by rw [List.length_map, Array.length_toList]; exact hn⟩
/-- a, b = x, y -/
theorem ps_parW {i j : Nat} {x y : Str} {a b : Expr} {ta : TA} {px py pt pos : Pos} {kt k2 pt2} (hc : HotS X x1 o1) (nd : X.N.Nodup) (hi : X.N[i]? = some x) (hj : X.N[j]? = some y) (hij : i ≠ j) (hx : X.env.scope.names.lookup x = some .local) (hy : X.env.scope.names.lookup y = some .local) (ha : PA X [a, b] ta)
    (hw : swappedStores [.Tuple [.Name x px, .Name y py] kt pt] (.Tuple [a, b] k2 pt2) X.env = pure (some [x, y])) (hs : swapsWithSole [.Tuple [.Name x px, .Name y py] kt pt] (.Tuple [a, b] k2 pt2) pos.line X.env = pure false := by rfl) :
    PS X (.Assign [.Tuple [.Name x px, .Name y py] kt pt] (.Tuple [a, b] k2 pt2) pos) (tPar i j ta) := by
  constructor
  intro pins s σ H D I h
  rw [exec_Assign_arm]
  refine wpAny_bind (wpAny_standAt ?_)
  rw [hs]
  refine wpAny_bind (wpAny_pure ?_)
  rw [if_neg (by decide)]
  refine wpAny_bind (Tuple_ (thn (ha.run _ pins s σ H _ I h) ?_))
  rintro us s1 ⟨vs, H1, I1, r1, v, w, rfl, q1⟩
  obtain ⟨u1, u2, rfl, rv, rw'⟩ := vals2 r1
  refine wpAny_newObj_type ?_ (by show 2 ≤ sizeLine; decide)
  have I2 : Inv X pins σ H1 { s1 with heap := s1.heap.push { cls := .type "tuple", data := .seq [u1, u2].toArray } } := I1.kept (t' := s1.toks) fun b o e => Heap.get?_push_of_some _ e
  rw [hw]
  refine wpAny_bind (wpAny_pure ?_)
  show wpAny _ X.A (do rule "assign.swapped-stores"; let its ← unpackItems (.ref s1.heap.objs.size) 2 none; assignInOrder [fun v => bindName X.env y v, fun v => bindName X.env x v] its.reverse; pure Flow.next) _ _ _
  refine wpAny_bind (wpAny_rule (wpAny_bind (unpackHot (items := #[u1, u2]) (hc.hot I2) (IsTup.new s1.heap _) fun h' hx' => ?_)))
  have I3 := I2.kept (h' := h') (t' := s1.toks) fun b o e => hx' b o (Nat.ne_of_lt (Heap.lt_size e)) e
  show wpAny _ _ (assignInOrder [fun v => bindName X.env y v, fun v => bindName X.env x v] [u2, u1] >>= fun _ => pure Flow.next) _ _ { s1 with heap := h' }
  refine wpAny_bind (assignInOrder_cons (wpAny_bindName (store_ok I3 nd hj (.inl hy) rw' (fun s2 I4 => ?_) (.inr hy))))
  refine assignInOrder_cons (wpAny_bindName (store_ok I4 nd hi (.inl hx) rv (fun s3 I5 => assignInOrder_nil (wpAny_pure ?_)) (.inr hx)))
  rw [List.set_comm _ _ (Ne.symm hij)] at I5
  exact ⟨_, H1, I5, q1⟩
end
end Pv
set_option maxHeartbeats 4000000
namespace Pv
open PySem PySem.Spec PyProof.Rows L2
/-! defs called while an error is handled, their loops by the rules above -/
section
variable {P : Program} {w : World} {K : PySem.W.Frag} {mg : Str → Option Value} {base : Heap}
theorem okW {x qual : Str} {st : Stmt} {f : Addr} {fd : FuncData} {N ps : List Str} {k : Nat} {sp : Sp} (F : Fun K x qual st f fd) (S : FnScope N ps (defScope st)) (ln : ∀ vs H Q E, sp vs H Q E → vs.length = ps.length)
    (hbd : ∀ (cdv : Value) (A : Around) (outer : List Env) (s : Shared) (H : Hp) (vs : List V) (Q : VK) (E : XK) (p : Addr × Obj), HotS (L2H.cxH CX0 P w K mg base N qual (defScope st) f cdv A outer s H E p) p.1 p.2 → L2H.HotC (L2H.cxH CX0 P w K mg base N qual (defScope st) f cdv A outer s H E p) →
      L2H.RoomH k (A.deeper (envOfC qual (defScope st) s.heap.objs.size f cdv)) → sp vs H Q E → ∃ t, PSs (L2H.cxH CX0 P w K mg base N qual (defScope st) f cdv A outer s H E p) (defBody st) t ∧ t { nx := fun _ H' => Q .non H', rt := Q } (L2.start N vs) H) :
    L2H.FnH P w K mg base CX0 (k + 1) f fd ps sp := by
  obtain ⟨oc, od, kV, dc, pm, an, cdv, ct, osl, rfl, lk, hcd⟩ := F.ex
  refine ⟨ln, fun A outer s H args us vs Q E p rm hh pk e0 bt rel hsp => ?_⟩
  have hle := ln _ _ _ _ hsp
  have inK : K.In s.heap := e0.mod.kin.keeps fun b o e => (e0.bs b o e).1
  have nolim : s.heap.NoLimit := e0.mod.nolimit.keeps fun b o e => (e0.bs b o e).1
  have kinds : ∀ y ∈ ps.zip us, (defScope st).names.lookup y.1 = some .local ∨ ((defScope st).names.lookup y.1 = some .cell ∧ ((cellsFrom (s.heap.objs.size + 1) (defScope st).names []).lookup y.1).isSome = true) := by
    rintro ⟨n, v⟩ hy
    have := S.par n (List.of_mem_zip hy).1
    exact this.elim (fun q => .inl q) fun q => .inr ⟨q, PySem.W.cellsFrom_some _ _ _ (.inl q)⟩
  refine codeAny_call_function rm.depth (inK _ _ lk) rfl S.co S.gen rfl (PySem.W.codeRec_of inK hcd) (bt _ _ _ _ (wpAny_newFunctionEnv_cells S.kind kinds ?_))
  rintro env rfl s1 z
  obtain ⟨t, ht, hq⟩ := hbd cdv A outer s H vs Q E p (hotS_fn hh pk) ⟨p, hh, by show p ∈ [p]; simp⟩ (rm.deeper _) hsp
  refine ⟨nolim.keeps z.toInCall.keep, codeAny_func (wpAny_mono (ht.run [] s1 (L2.start N vs) H _ (L2H.inv_startH S pk e0 hle rel z) hq) ?_ fun e s' z => z)⟩
  intro fl s' z
  cases fl with
  | ret u => obtain ⟨v, σ', H', J, rv, q⟩ := z; exact ⟨v, H', J.os, J.bare, J.base, J.hok, rv, q⟩
  | next => obtain ⟨σ', H', J, q⟩ := z; exact ⟨V.non, H', J.os, J.bare, J.base, J.hok, rfl, q⟩
  | brk => obtain ⟨_, _, _, q⟩ := z; exact q.elim
  | cont => obtain ⟨_, _, _, q⟩ := z; exact q.elim
end
end Pv
namespace Pv
open PySem PySem.Spec PyProof.Rows L2
section
variable {X : Cx} {CX : CXT} {k : Nat} {f : Addr} {fd : FuncData} {ps : List Str} {sp : Sp} {x : Str} {q pos : Pos} {e : Expr} {es : List Expr} {t : TA}
theorem pe_callW (F : L2H.FnH X.prog X.w X.K X.mg X.base CX0 k f fd ps sp) (hr : L2H.RoomH k X.A) (hc : L2H.HotC X) (hg : Gl X x) (hm : X.mg x = some (.ref f)) (hk : PySem.W.keepIn X.K (.ref f) = true) (hb : Binds X.K fd ps [])
    (ha : PA X (e :: es) t) (hdb : (x == ("__debug__" : Str)) = false := by decide) (he : starEach (e :: es) X.env = (false, eval e X.env) :: starEach es X.env := by rfl) (hpl : (backTo pos (starEach es X.env)).any (·.1) = false := by rfl) : PE X (.Call (.Name x q) (e :: es) [] pos) (tCall sp [] E0 t) := by
  constructor
  intro pins s σ H Q I h
  exact (L2H.pe_callH (E := fun _ => E0) F hr hc hg hm hk hb (fun _ _ _ _ _ _ _ z => z.elim) ha hdb he hpl).run pins s σ H Q I (by simpa only [tCall, tCallS, List.append_nil] using h)
end
end Pv
namespace Pv
open PySem PySem.Spec PyProof.Rows L2
theorem hotC_suite {X : Cx} {a : Addr} {oe : Obj} {cls : Value} {d : Option Addr} {pn : List (Addr × Obj)} (hz : L2N.Zn cls d oe) (hf : ∃ vs, oe.data = .fields vs) : L2H.HotC (X.suite a ((a, oe) :: pn)) :=
  ⟨(a, oe), ⟨rfl, hf.elim fun vs e => ⟨vs, e, hz.2.2 vs e⟩⟩, List.mem_cons_self⟩
theorem takes0N {X : Cx} : L2N.Takes X (fun _ _ _ _ => False) := fun _ _ ⟨_, _, _, _, _, _, _, _, _, _, _, _, _, _, _, _, z⟩ => z.elim
end Pv
namespace Pv
open PySem PySem.Spec PyProof.Rows L2
theorem roomH_suite {X : Cx} {a : Addr} {pn : List (Addr × Obj)} {k j : Nat} (r : Room j X.A) (h : k ≤ j) : L2H.RoomH k (X.suite a pn).A :=
  ⟨by have := r.dp; show X.A.depth + 3 * k + 5 < _; omega, by have := r.un; show X.A.units + 16 * k + 200 < _; omega⟩
end Pv
namespace Pv
/-! cuts: who moves out of a set of posts, and into it -/
abbrev Rt := Option (Int × Option Int)
abbrev Ed := Rt × Int × Int
def inb (m : Int → Bool) : Option Int → Bool
  | none => false
  | some y => m y
def sg (m : Int → Bool) : Rt → Int
  | none => 0
  | some r => (if inb m r.2 = true then 1 else 0) - (if m r.1 = true then 1 else 0)
def wE (m : Int → Bool) (e : Ed) : Int := if sg m e.1 < 0 then e.2.2 else if 0 < sg m e.1 then -e.2.1 else 0
def spareS (N : List Int) (sp : Int → Int) (m : Int → Bool) : Int := ((N.filter m).map sp).sum
def FS (N : List Int) (sp : Int → Int) (m : Int → Bool) (es : List Ed) : Int := spareS N sp m + (es.map (wE m)).sum
def lP (p : Int) (e : Ed) : Int := match e.1 with | some r => if r.1 = p then e.2.1 else 0 | none => 0
def PS (sp : Int → Int) (p : Int) (es : List Ed) : Int := - sp p - (es.map (lP p)).sum
def lZ (e : Ed) : Int := match e.1 with | none => e.2.1 | some _ => 0
def ZS (es : List Ed) : Int := -(es.map lZ).sum
structure Feas (N : List Int) (sp : Int → Int) (C : List Int) (es : List Ed) : Prop where
  set : ∀ m, 0 ≤ FS N sp m es
  st : ∀ p ∈ C, 0 ≤ PS sp p es
  z : 0 ≤ ZS es
structure Wf (N : List Int) (C : List Int) (es : List Ed) : Prop where
  nd : N.Nodup
  sub : ∀ p ∈ C, p ∈ N
  a : ∀ e ∈ es, ∀ r, e.1 = some r → r.1 ∈ C
  b : ∀ e ∈ es, ∀ r, e.1 = some r → ∀ y, r.2 = some y → y ∉ C
  lu : ∀ e ∈ es, e.2.1 ≤ e.2.2
theorem sum_set {α : Type} (f : α → Int) : ∀ (l : List α) (j : Nat) (x y : α), l[j]? = some x → ((l.set j y).map f).sum = (l.map f).sum - f x + f y
  | [], j, x, y, h => by simp at h
  | z :: l, 0, x, y, h => by simp at h; subst h; simp; omega
  | z :: l, j + 1, x, y, h => by
    have := sum_set f l j x y (by simpa using h)
    simp only [List.set_cons_succ, List.map_cons, List.sum_cons, this]
    omega
theorem spareS_mod (N : List Int) (sp : Int → Int) (m n : Int → Bool) : spareS N sp m + spareS N sp n = spareS N sp (fun q => m q && n q) + spareS N sp (fun q => m q || n q) := by
  unfold spareS
  induction N with
  | nil => rfl
  | cons p N ih =>
    by_cases h1 : m p = true <;> by_cases h2 : n p = true <;> simp [h1, h2] <;> omega
theorem inb_and (m n : Int → Bool) (b : Option Int) : inb (fun q => m q && n q) b = (inb m b && inb n b) := by cases b <;> rfl
theorem inb_or (m n : Int → Bool) (b : Option Int) : inb (fun q => m q || n q) b = (inb m b || inb n b) := by cases b <;> rfl
def bon (m n : Int → Bool) (e : Ed) : Int := if sg m e.1 < 0 ∧ 0 < sg n e.1 then e.2.2 - e.2.1 else 0
def wB (i a : Bool) (l u : Int) : Int := if i = false ∧ a = true then u else if i = true ∧ a = false then -l else 0
theorem sg_neg (m : Int → Bool) (r : Int × Option Int) : sg m (some r) < 0 ↔ inb m r.2 = false ∧ m r.1 = true := by
  cases h1 : inb m r.2 <;> cases h2 : m r.1 <;> simp [sg, h1, h2]
theorem sg_pos (m : Int → Bool) (r : Int × Option Int) : 0 < sg m (some r) ↔ inb m r.2 = true ∧ m r.1 = false := by
  cases h1 : inb m r.2 <;> cases h2 : m r.1 <;> simp [sg, h1, h2]
theorem wE_some (m : Int → Bool) (r : Int × Option Int) (l u : Int) : wE m (some r, l, u) = wB (inb m r.2) (m r.1) l u := by
  cases h1 : inb m r.2 <;> cases h2 : m r.1 <;> simp [wE, sg, wB, h1, h2]
theorem w_sub (m n : Int → Bool) (e : Ed) (h : e.2.1 ≤ e.2.2) : wE (fun q => m q && n q) e + wE (fun q => m q || n q) e + bon m n e ≤ wE m e + wE n e := by
  obtain ⟨r, l, u⟩ := e
  cases r with
  | none => simp [wE, sg, bon]
  | some r =>
    simp only [wE_some, bon, inb_and, inb_or, sg_neg, sg_pos] at h ⊢
    cases h1 : m r.1 <;> cases h2 : n r.1 <;> cases h3 : inb m r.2 <;> cases h4 : inb n r.2 <;> simp [wB] <;> omega
theorem bon_nn (m n : Int → Bool) (e : Ed) (h : e.2.1 ≤ e.2.2) : 0 ≤ bon m n e := by unfold bon; split <;> omega
theorem sum_nn : ∀ {l : List Int}, (∀ x ∈ l, 0 ≤ x) → 0 ≤ l.sum
  | [], _ => by simp
  | x :: l, h => by
    have h1 := h x (by simp)
    have h2 := sum_nn (l := l) fun y hy => h y (by simp [hy])
    simp only [List.sum_cons]; omega
theorem sum_ge {l : List Int} (h : ∀ x ∈ l, 0 ≤ x) {y : Int} (hy : y ∈ l) : y ≤ l.sum := by
  induction l with
  | nil => cases hy
  | cons x l ih =>
    have h1 := h x (by simp)
    have h2 := sum_nn (l := l) fun y hy => h y (by simp [hy])
    simp only [List.sum_cons]
    rcases List.mem_cons.mp hy with rfl | hy
    · omega
    · have := ih (fun x hx => h x (by simp [hx])) hy; omega
theorem F_sub (N : List Int) (sp : Int → Int) (m n : Int → Bool) {es : List Ed} (h : ∀ e ∈ es, e.2.1 ≤ e.2.2) : FS N sp (fun q => m q && n q) es + FS N sp (fun q => m q || n q) es + (es.map (bon m n)).sum ≤ FS N sp m es + FS N sp n es := by
  have h1 := spareS_mod N sp m n
  have h2 : (es.map (wE (fun q => m q && n q))).sum + (es.map (wE (fun q => m q || n q))).sum + (es.map (bon m n)).sum ≤ (es.map (wE m)).sum + (es.map (wE n)).sum := by
    clear h1
    induction es with
    | nil => simp
    | cons e es ih =>
      have a := w_sub m n e (h e (by simp))
      have b := ih fun e he => h e (by simp [he])
      simp only [List.map_cons, List.sum_cons]
      omega
  unfold FS
  omega
/-- a cut that a group leaves, and one that it comes into, have room for it together -/
theorem cross {N : List Int} {sp : Int → Int} {C : List Int} {es : List Ed} (W : Wf N C es) (Fe : Feas N sp C es) {e : Ed} (he : e ∈ es) {m n : Int → Bool} (hm : sg m e.1 < 0) (hn : 0 < sg n e.1) : e.2.2 - e.2.1 ≤ FS N sp m es + FS N sp n es := by
  have h1 := F_sub N sp m n W.lu
  have h2 := Fe.set (fun q => m q && n q)
  have h3 := Fe.set (fun q => m q || n q)
  have h4 : bon m n e ≤ (es.map (bon m n)).sum := sum_ge (fun x hx => by
    obtain ⟨e', he', rfl⟩ := List.mem_map.mp hx
    exact bon_nn m n e' (W.lu e' he')) (List.mem_map_of_mem he)
  have h5 : bon m n e = e.2.2 - e.2.1 := by unfold bon; rw [if_pos ⟨hm, hn⟩]
  omega
theorem spareS_out {N : List Int} (nd : N.Nodup) (sp : Int → Int) {m : Int → Bool} {p : Int} (hp : p ∈ N) (hm : m p = true) : spareS N sp m = spareS N sp (fun q => m q && !decide (q = p)) + sp p := by
  unfold spareS
  induction N with
  | nil => cases hp
  | cons x N ih =>
    have nd' := List.nodup_cons.mp nd
    by_cases hx : x = p
    · subst hx
      have : N.filter (fun q => m q && !decide (q = x)) = N.filter m := by
        apply List.filter_congr
        intro q hq
        have : q ≠ x := fun z => nd'.1 (z ▸ hq)
        simp [this]
      rw [List.filter_cons_of_pos hm, List.filter_cons_of_neg (by simp), this]
      simp; omega
    · have hp' : p ∈ N := by rcases List.mem_cons.mp hp with h | h; exact absurd h.symm hx; exact h
      have := ih nd'.2 hp'
      by_cases h : m x = true
      · rw [List.filter_cons_of_pos h, List.filter_cons_of_pos (by simp [h, hx])]
        simp only [List.map_cons, List.sum_cons]; omega
      · rw [List.filter_cons_of_neg h, List.filter_cons_of_neg (by simp [h])]
        exact this
def bonP (m : Int → Bool) (p : Int) (e : Ed) : Int := match e.1 with | some r => if r.1 = p ∧ inb m r.2 = false then e.2.2 - e.2.1 else 0 | none => 0
/-- a cut that a group leaves, and the cut of its first post -/
theorem crossP {N : List Int} {sp : Int → Int} {C : List Int} {es : List Ed} (W : Wf N C es) (Fe : Feas N sp C es) {e : Ed} (he : e ∈ es) {m : Int → Bool} {r : Int × Option Int} (hr : e.1 = some r) (hm : sg m e.1 < 0) : e.2.2 - e.2.1 ≤ FS N sp m es + PS sp r.1 es := by
  have hrC := W.a e he r hr
  have hmp : m r.1 = true ∧ inb m r.2 = false := by
    rw [hr, sg_neg] at hm
    exact ⟨hm.2, hm.1⟩
  have h1 := spareS_out W.nd sp (W.sub _ hrC) hmp.1
  have key : ∀ e ∈ es, wE m e - lP r.1 e = wE (fun q => m q && !decide (q = r.1)) e + bonP m r.1 e := by
    intro e' he'
    obtain ⟨r', l, u⟩ := e'
    cases r' with
    | none => simp [wE, sg, lP, bonP]
    | some r' =>
      obtain ⟨a, b⟩ := r'
      have hb : inb (fun q => m q && !decide (q = r.1)) b = inb m b := by
        cases b with
        | none => rfl
        | some y =>
          have hy := W.b _ he' (a, some y) rfl y rfl
          have : y ≠ r.1 := fun z => hy (z ▸ hrC)
          simp [inb, this]
      simp only [wE_some, lP, bonP, hb]
      by_cases ha : a = r.1
      · subst ha
        cases h9 : inb m b <;> simp [wB, hmp.1]
      · simp [ha]
  have h2 : (es.map (wE m)).sum - (es.map (lP r.1)).sum = (es.map (wE (fun q => m q && !decide (q = r.1)))).sum + (es.map (bonP m r.1)).sum := by
    clear he Fe W
    induction es with
    | nil => simp
    | cons e' es ih =>
      have a := key e' (by simp)
      have b := ih fun e he => key e (by simp [he])
      simp only [List.map_cons, List.sum_cons]
      omega
  have h3 := Fe.set (fun q => m q && !decide (q = r.1))
  have h4 : bonP m r.1 e ≤ (es.map (bonP m r.1)).sum := sum_ge (fun x hx => by
    obtain ⟨e', he', rfl⟩ := List.mem_map.mp hx
    have := W.lu e' he'
    unfold bonP
    split
    · split <;> omega
    · omega) (List.mem_map_of_mem he)
  have h5 : bonP m r.1 e = e.2.2 - e.2.1 := by unfold bonP; rw [hr]; simp [hmp.2]
  unfold FS at h3 ⊢
  unfold PS
  omega
/-! one group is given its integer -/
theorem F_set {N : List Int} {sp : Int → Int} {es : List Ed} {j : Nat} {e e' : Ed} (he : es[j]? = some e) (m : Int → Bool) : FS N sp m (es.set j e') = FS N sp m es - wE m e + wE m e' := by
  unfold FS; rw [sum_set (wE m) es j e e' he]; omega
theorem P_set {sp : Int → Int} {es : List Ed} {j : Nat} {e e' : Ed} (he : es[j]? = some e) (p : Int) : PS sp p (es.set j e') = PS sp p es + lP p e - lP p e' := by
  unfold PS; rw [sum_set (lP p) es j e e' he]; omega
theorem Z_set {es : List Ed} {j : Nat} {e e' : Ed} (he : es[j]? = some e) : ZS (es.set j e') = ZS es + lZ e - lZ e' := by
  unfold ZS; rw [sum_set lZ es j e e' he]; omega
/-- which integers are open to a group -/
structure Opn (N : List Int) (sp : Int → Int) (es : List Ed) (e : Ed) (x : Int) : Prop where
  lo : ∀ m, sg m e.1 < 0 → e.2.2 - FS N sp m es ≤ x
  hi : ∀ m, 0 < sg m e.1 → x ≤ e.2.1 + FS N sp m es
  p : ∀ r, e.1 = some r → x ≤ e.2.1 + PS sp r.1 es
  z : e.1 = none → x ≤ e.2.1 + ZS es
theorem opn_iff {N : List Int} {sp : Int → Int} {C : List Int} {es : List Ed} (W : Wf N C es) (Fe : Feas N sp C es) {j : Nat} {e : Ed} (he : es[j]? = some e) (x : Int) : Feas N sp C (es.set j (e.1, x, x)) ↔ Opn N sp es e x := by
  constructor
  · intro h
    refine ⟨fun m hm => ?_, fun m hm => ?_, fun r hr => ?_, fun hn => ?_⟩
    · have := h.set m
      rw [F_set he] at this
      unfold wE at this
      simp only [hm, if_true] at this
      omega
    · have := h.set m
      rw [F_set he] at this
      unfold wE at this
      have hn : ¬ sg m e.1 < 0 := by omega
      simp only [hm, hn, if_true, if_false] at this
      omega
    · have := h.st r.1 (W.a e (List.mem_of_getElem? he) r hr)
      rw [P_set he] at this
      unfold lP at this
      simp only [hr, if_true] at this
      omega
    · have := h.z
      rw [Z_set he] at this
      unfold lZ at this
      simp only [hn] at this
      omega
  · intro h
    refine ⟨fun m => ?_, fun p hp => ?_, ?_⟩
    · rw [F_set he]
      have := Fe.set m
      by_cases h1 : sg m e.1 < 0
      · have := h.lo m h1
        unfold wE
        simp only [h1, if_true]; omega
      · by_cases h2 : 0 < sg m e.1
        · have := h.hi m h2
          unfold wE
          simp only [h1, h2, if_true, if_false]; omega
        · unfold wE
          simp only [h1, h2, if_false]; omega
    · rw [P_set he]
      have := Fe.st p hp
      unfold lP
      cases hr : e.1 with
      | none => simp only; omega
      | some r =>
        simp only
        by_cases h1 : r.1 = p
        · have := h.p r hr
          simp only [h1, if_true] at this ⊢
          omega
        · simp only [h1, if_false]; omega
    · rw [Z_set he]
      have := Fe.z
      unfold lZ
      cases hr : e.1 with
      | none => have := h.z hr; simp only; omega
      | some r => simp only; omega
/-- the least that is asked from below is open -/
theorem opn_least {N : List Int} {sp : Int → Int} {C : List Int} {es : List Ed} (W : Wf N C es) (Fe : Feas N sp C es) {e : Ed} (he : e ∈ es) {x : Int} (lo : ∀ m, sg m e.1 < 0 → e.2.2 - FS N sp m es ≤ x) (at_ : x = e.2.1 ∨ ∃ m, sg m e.1 < 0 ∧ x = e.2.2 - FS N sp m es) : Opn N sp es e x := by
  refine ⟨lo, fun m hm => ?_, fun r hr => ?_, fun hn => ?_⟩
  · rcases at_ with rfl | ⟨m', hm', rfl⟩
    · have := Fe.set m; omega
    · have := cross W Fe he hm' hm; omega
  · rcases at_ with rfl | ⟨m', hm', rfl⟩
    · have := Fe.st _ (W.a e he r hr); omega
    · have := crossP W Fe he hr hm'; omega
  · rcases at_ with rfl | ⟨m', hm', rfl⟩
    · have := Fe.z; omega
    · rw [hn] at hm'; simp [sg] at hm'
/-- the greatest that is let through from above is open -/
theorem opn_most {N : List Int} {sp : Int → Int} {C : List Int} {es : List Ed} (W : Wf N C es) (Fe : Feas N sp C es) {e : Ed} (he : e ∈ es) {x : Int} (hi : ∀ m, 0 < sg m e.1 → x ≤ e.2.1 + FS N sp m es) (p : ∀ r, e.1 = some r → x ≤ e.2.1 + PS sp r.1 es) (z : e.1 = none → x ≤ e.2.1 + ZS es)
    (at_ : x = e.2.2 ∨ (∃ m, 0 < sg m e.1 ∧ x = e.2.1 + FS N sp m es) ∨ (∃ r, e.1 = some r ∧ x = e.2.1 + PS sp r.1 es) ∨ (e.1 = none ∧ x = e.2.1 + ZS es)) : Opn N sp es e x := by
  refine ⟨fun m hm => ?_, hi, p, z⟩
  rcases at_ with rfl | ⟨m', hm', rfl⟩ | ⟨r, hr, rfl⟩ | ⟨hn, rfl⟩
  · have := Fe.set m; omega
  · have := cross W Fe he hm hm'; omega
  · have := crossP W Fe he hr hm; omega
  · rw [hn] at hm; simp [sg] at hm
theorem Wf.set {N : List Int} {C : List Int} {es : List Ed} (W : Wf N C es) {j : Nat} {e : Ed} (he : es[j]? = some e) (x : Int) : Wf N C (es.set j (e.1, x, x)) := by
  have hm := List.mem_of_getElem? he
  refine ⟨W.nd, W.sub, fun e' h' r hr => ?_, fun e' h' r hr => ?_, fun e' h' => ?_⟩
  · rcases List.mem_or_eq_of_mem_set h' with h | h
    · exact W.a e' h r hr
    · subst h; exact W.a e hm r hr
  · rcases List.mem_or_eq_of_mem_set h' with h | h
    · exact W.b e' h r hr
    · subst h; exact W.b e hm r hr
  · rcases List.mem_or_eq_of_mem_set h' with h | h
    · exact W.lu e' h
    · subst h; exact Int.le_refl _
/-- there is one -/
theorem opn_ex {N : List Int} {sp : Int → Int} {C : List Int} {es : List Ed} (W : Wf N C es) (Fe : Feas N sp C es) {e : Ed} (he : e ∈ es) : ∃ x, e.2.1 ≤ x ∧ x ≤ e.2.2 ∧ Opn N sp es e x := by
  have hlu := W.lu e he
  -- the least natural number k with: l + k is at least all that is asked
  have hex : ∃ k : Nat, ∀ m, sg m e.1 < 0 → e.2.2 - FS N sp m es ≤ e.2.1 + k := ⟨(e.2.2 - e.2.1).toNat, fun m hm => by have := Fe.set m; omega⟩
  have hmin : ∀ n : Nat, (∀ m, sg m e.1 < 0 → e.2.2 - FS N sp m es ≤ e.2.1 + n) → ∃ k : Nat, k ≤ n ∧ (∀ m, sg m e.1 < 0 → e.2.2 - FS N sp m es ≤ e.2.1 + k) ∧ (k = 0 ∨ ∃ m, sg m e.1 < 0 ∧ e.2.1 + k = e.2.2 - FS N sp m es) := by
    intro n
    induction n with
    | zero => intro h; exact ⟨0, Nat.le_refl _, h, .inl rfl⟩
    | succ n ih =>
      intro h
      by_cases h' : ∀ m, sg m e.1 < 0 → e.2.2 - FS N sp m es ≤ e.2.1 + n
      · obtain ⟨k, h1, h2⟩ := ih h'
        exact ⟨k, by omega, h2⟩
      · refine ⟨n + 1, Nat.le_refl _, h, .inr ?_⟩
        have ⟨m, hm⟩ := Classical.not_forall.mp h'
        have ⟨h1, h2⟩ := Classical.not_imp.mp hm
        refine ⟨m, h1, ?_⟩
        have := h m h1
        omega
  obtain ⟨k, hk, hlo, hat⟩ := hmin (e.2.2 - e.2.1).toNat fun m hm => by have := Fe.set m; omega
  refine ⟨e.2.1 + k, by omega, by omega, opn_least W Fe he hlo ?_⟩
  rcases hat with rfl | ⟨m, h1, h2⟩
  · left; simp
  · right; exact ⟨m, h1, h2⟩
/-- all groups can be given integers -/
theorem complete_on {N : List Int} {sp : Int → Int} {C : List Int} : ∀ (rest done : List Ed), Wf N C (done ++ rest) → Feas N sp C (done ++ rest) → ∃ xs : List Int, xs.length = rest.length ∧ (∀ (j : Nat) (e : Ed) (x : Int), rest[j]? = some e → xs[j]? = some x → e.2.1 ≤ x ∧ x ≤ e.2.2) ∧ Feas N sp C (done ++ List.zipWith (fun (e : Ed) x => ((e.1, x, x) : Ed)) rest xs)
  | [], done, _, Fe => ⟨[], rfl, fun j e x h => by simp at h, by simpa using Fe⟩
  | e :: rest, done, W, Fe => by
    have hat : (done ++ e :: rest)[done.length]? = some e := by simp
    obtain ⟨x, h1, h2, h3⟩ := opn_ex W Fe (List.mem_of_getElem? hat)
    have hset : (done ++ e :: rest).set done.length (e.1, x, x) = (done ++ [((e.1, x, x) : Ed)]) ++ rest := by simp
    have W' := W.set hat x
    have F' := (opn_iff W Fe hat x).mpr h3
    rw [hset] at W' F'
    obtain ⟨xs, lx, bx, Fx⟩ := complete_on rest (done ++ [((e.1, x, x) : Ed)]) W' F'
    refine ⟨x :: xs, by simp [lx], fun j f y hf hy => ?_, by simpa using Fx⟩
    cases j with
    | zero => simp at hf hy; subst hf; subst hy; exact ⟨h1, h2⟩
    | succ j => exact bx j f y (by simpa using hf) (by simpa using hy)
theorem complete {N : List Int} {sp : Int → Int} {C : List Int} {es : List Ed} (W : Wf N C es) (Fe : Feas N sp C es) : ∃ xs : List Int, xs.length = es.length ∧ (∀ (j : Nat) (e : Ed) (x : Int), es[j]? = some e → xs[j]? = some x → e.2.1 ≤ x ∧ x ≤ e.2.2) ∧ Feas N sp C (List.zipWith (fun (e : Ed) x => ((e.1, x, x) : Ed)) es xs) := by
  obtain ⟨xs, h1, h2, h3⟩ := complete_on es [] (by simpa using W) (by simpa using Fe)
  exact ⟨xs, h1, h2, by simpa using h3⟩
/-- what is fixed is open before -/
theorem feas_loose {N : List Int} {sp : Int → Int} {C : List Int} : ∀ {es fs : List Ed}, Feas N sp C fs → es.length = fs.length → (∀ (j : Nat) (e f : Ed), es[j]? = some e → fs[j]? = some f → e.1 = f.1 ∧ e.2.1 ≤ f.2.1 ∧ f.2.2 ≤ e.2.2) → Feas N sp C es := by
  intro es fs Fe hl h
  have key : ∀ (g : Ed → Int), (∀ e f : Ed, e.1 = f.1 → e.2.1 ≤ f.2.1 → f.2.2 ≤ e.2.2 → g f ≤ g e) → ∀ (es fs : List Ed), es.length = fs.length → (∀ (j : Nat) (e f : Ed), es[j]? = some e → fs[j]? = some f → e.1 = f.1 ∧ e.2.1 ≤ f.2.1 ∧ f.2.2 ≤ e.2.2) → (fs.map g).sum ≤ (es.map g).sum := by
    intro g hg es
    induction es with
    | nil => intro fs hl _; cases fs with | nil => simp | cons _ _ => simp at hl
    | cons e es ih =>
      intro fs hl h
      cases fs with
      | nil => simp at hl
      | cons f fs =>
        have h0 := h 0 e f rfl rfl
        have h1 := hg e f h0.1 h0.2.1 h0.2.2
        have h2 := ih fs (by simpa using hl) fun j e f he hf => h (j + 1) e f (by simpa using he) (by simpa using hf)
        simp only [List.map_cons, List.sum_cons]; omega
  refine ⟨fun m => ?_, fun p hp => ?_, ?_⟩
  · have h1 := Fe.set m
    have h2 := key (wE m) (fun e f a b c => by
      unfold wE
      rw [a]
      split
      · omega
      · split <;> omega) es fs hl h
    unfold FS at h1 ⊢; omega
  · have h1 := Fe.st p hp
    have h2 := key (fun e => - lP p e) (fun e f a b c => by
      unfold lP
      rw [a]
      split
      · split <;> omega
      · omega) es fs hl h
    have h3 : ∀ l : List Ed, (l.map (fun e => - lP p e)).sum = - (l.map (lP p)).sum := by
      intro l; induction l with
      | nil => simp
      | cons x l ih => simp only [List.map_cons, List.sum_cons, ih]; omega
    rw [h3, h3] at h2
    unfold PS at h1 ⊢; omega
  · have h1 := Fe.z
    have h2 := key (fun e => - lZ e) (fun e f a b c => by
      unfold lZ
      rw [a]
      split
      · omega
      · omega) es fs hl h
    have h3 : ∀ l : List Ed, (l.map (fun e => - lZ e)).sum = - (l.map lZ).sum := by
      intro l; induction l with
      | nil => simp
      | cons x l ih => simp only [List.map_cons, List.sum_cons, ih]; omega
    rw [h3, h3] at h2
    unfold ZS at h1 ⊢; omega
end Pv
namespace Pv
/-! the cuts of an instance -/
def spOf (cs : List Int) (gs : List Gp) (p : Int) : Int := cs.getD p.toNat 0 - (rDem cs gs).getD p.toNat 0
def nzP (cs : List Int) (gs : List Gp) : List Int := ((List.range cs.length).map (fun (k : Nat) => (k : Int))).filter fun p => !decide (spOf cs gs p = 0)
def esx (cs : List Int) (gs : List Gp) (xs : List Int) : List Ed := List.zipWith (fun g x => ((routeOf cs gs g, x, x) : Ed)) gs xs
def es0 (cs : List Int) (gs : List Gp) : List Ed := gs.map fun g => ((routeOf cs gs g, 0, g.2) : Ed)
theorem nz_nodup (cs : List Int) (gs : List Gp) : (nzP cs gs).Nodup := by
  refine List.Nodup.sublist (List.filter_sublist ..) ?_
  rw [List.nodup_iff_pairwise_ne, List.pairwise_map]
  exact List.Pairwise.imp (fun h => by omega) (List.nodup_iff_pairwise_ne.mp List.nodup_range)
theorem nz_mem {cs : List Int} {gs : List Gp} {p : Int} : p ∈ nzP cs gs ↔ (0 ≤ p ∧ p < (cs.length : Int)) ∧ spOf cs gs p ≠ 0 := by
  unfold nzP
  rw [List.mem_filter, List.mem_map]
  constructor
  · rintro ⟨⟨k, hk, rfl⟩, h⟩
    have := List.mem_range.mp hk
    exact ⟨⟨by omega, by omega⟩, by simpa using h⟩
  · rintro ⟨⟨h1, h2⟩, h⟩
    exact ⟨⟨p.toNat, List.mem_range.mpr (by omega), by omega⟩, by simpa using h⟩
theorem sel_mem {f : Int → Bool} {ls : List Int} {n : Nat} {p : Int} : p ∈ sel f ls n ↔ (0 ≤ p ∧ p < (n : Int)) ∧ f (ls.getD p.toNat 0) = true := by
  unfold sel
  rw [List.mem_map]
  constructor
  · rintro ⟨k, hk, rfl⟩
    have := List.mem_filter.mp hk
    have h2 := List.mem_range.mp this.1
    exact ⟨⟨by omega, by omega⟩, by simpa using this.2⟩
  · rintro ⟨⟨h1, h2⟩, h⟩
    exact ⟨p.toNat, List.mem_filter.mpr ⟨List.mem_range.mpr (by omega), h⟩, by omega⟩
theorem cro_mem {cs : List Int} {gs : List Gp} {p : Int} : p ∈ rCro cs gs ↔ (0 ≤ p ∧ p < (cs.length : Int)) ∧ spOf cs gs p < 0 := by
  unfold rCro
  rw [sel_mem]
  constructor
  · rintro ⟨⟨h1, h2⟩, h⟩
    refine ⟨⟨h1, h2⟩, ?_⟩
    have a : p.toNat < cs.length := by omega
    unfold rExc at h
    rw [exc_at a (by rw [rDem_len]; exact a)] at h
    unfold spOf
    rw [List.getD_eq_getElem?_getD, List.getD_eq_getElem?_getD, List.getElem?_eq_getElem a, List.getElem?_eq_getElem (show p.toNat < (rDem cs gs).length by rw [rDem_len]; exact a)]
    simp only [Option.getD_some]
    have h := of_decide_eq_true h
    unfold mx at h
    split at h <;> omega
  · rintro ⟨⟨h1, h2⟩, h⟩
    refine ⟨⟨h1, h2⟩, ?_⟩
    have a : p.toNat < cs.length := by omega
    unfold rExc
    rw [exc_at a (by rw [rDem_len]; exact a)]
    unfold spOf at h
    rw [List.getD_eq_getElem?_getD, List.getD_eq_getElem?_getD, List.getElem?_eq_getElem a, List.getElem?_eq_getElem (show p.toNat < (rDem cs gs).length by rw [rDem_len]; exact a)] at h
    simp only [Option.getD_some] at h
    apply decide_eq_true
    unfold mx
    split <;> omega
theorem cla_mem {cs : List Int} {gs : List Gp} {p : Int} (h : 0 ≤ p ∧ p < (cs.length : Int)) : (rCla cs gs).contains p = decide (spOf cs gs p ≤ 0) := by
  have a : p.toNat < cs.length := by omega
  have e : p = ((p.toNat : Nat) : Int) := by omega
  rw [e, cla_has a]
  unfold spOf
  rw [Int.toNat_natCast, List.getD_eq_getElem?_getD, List.getD_eq_getElem?_getD, List.getElem?_eq_getElem a, List.getElem?_eq_getElem (show p.toNat < (rDem cs gs).length by rw [rDem_len]; exact a)]
  simp only [Option.getD_some, decide_eq_decide]
  omega
theorem res_free {ps cl : List Int} {y : Int} (h : ps[resOf ps cl]? = some y) : cl.contains y = false := by
  unfold resOf at h
  cases e : (List.range' 1 (ps.length - 1)).find? (isFree ps cl) with
  | none => rw [e] at h; simp at h
  | some k =>
    rw [e] at h
    simp only [Option.getD_some] at h
    have := List.find?_some e
    unfold isFree at this
    rw [List.getD_eq_getElem?_getD, h] at this
    simpa using this
theorem route_wf {cs : List Int} {gs : List Gp} (ok : InsOk cs gs) {g : Gp} (hg : g ∈ gs) {r : Int × Option Int} (h : routeOf cs gs g = some r) : r.1 ∈ rCro cs gs ∧ ∀ y, r.2 = some y → 0 < spOf cs gs y ∧ 0 ≤ y ∧ y < (cs.length : Int) := by
  have hin := route_in ok hg h
  unfold routeOf at h
  cases e : g.1 with
  | nil => rw [e] at h; cases h
  | cons p ps =>
    rw [e] at h
    simp only at h
    split at h
    case isFalse => cases h
    case isTrue hc =>
      cases h
      refine ⟨by simpa using hc, fun y hy => ?_⟩
      have hy2 := hin.2 y hy
      simp only at hy
      have := res_free hy
      rw [cla_mem hy2] at this
      have := of_decide_eq_false this
      exact ⟨by omega, hy2.1, hy2.2⟩
theorem wf_of {cs : List Int} {gs : List Gp} (ok : InsOk cs gs) {es : List Ed} (h : ∀ e ∈ es, e.2.1 ≤ e.2.2 ∧ ∃ g ∈ gs, e.1 = routeOf cs gs g) : Wf (nzP cs gs) (rCro cs gs) es := by
  refine ⟨nz_nodup cs gs, fun p hp => ?_, fun e he r hr => ?_, fun e he r hr y hy hc => ?_, fun e he => (h e he).1⟩
  · have := cro_mem.mp hp
    exact nz_mem.mpr ⟨this.1, by omega⟩
  · obtain ⟨_, g, hg, e1⟩ := h e he
    exact (route_wf ok hg (e1 ▸ hr)).1
  · obtain ⟨_, g, hg, e1⟩ := h e he
    have h1 := (route_wf ok hg (e1 ▸ hr)).2 y hy
    have h2 := cro_mem.mp hc
    omega
theorem wf_es0 {cs : List Int} {gs : List Gp} (ok : InsOk cs gs) : Wf (nzP cs gs) (rCro cs gs) (es0 cs gs) := by
  refine wf_of ok fun e he => ?_
  obtain ⟨g, hg, rfl⟩ := List.mem_map.mp he
  exact ⟨by have := (ok.gp g hg).2.2.1; simp only; omega, g, hg, rfl⟩
/-! what is moved, by posts -/
def movP (p : Int) (z : Rt × Int) : Int := match z.1 with | some r => if r.1 = p then z.2 else 0 | none => 0
def takP (p : Int) (z : Rt × Int) : Int := match z.1 with | some r => if r.2 = some p then z.2 else 0 | none => 0
theorem addAt_get {ls : List Int} {p q : Nat} {x : Int} (h : p < ls.length) : (addAt ls (p : Int) x).getD q 0 = ls.getD q 0 + if p = q then x else 0 := by
  unfold addAt
  rw [Int.toNat_natCast, List.getD_eq_getElem?_getD, List.getD_eq_getElem?_getD, List.getElem?_set]
  by_cases e : p = q
  · subst e; simp [h]
  · simp [e]
theorem mv_get {n : Nat} {zs : List (Rt × Int)} (h : ∀ z ∈ zs, ∀ r, z.1 = some r → (0 ≤ r.1 ∧ r.1 < (n : Int)) ∧ ∀ y, r.2 = some y → 0 ≤ y ∧ y < (n : Int)) (q : Nat) : (mvOf n zs).1.getD q 0 = (zs.map (movP q)).sum ∧ (mvOf n zs).2.getD q 0 = (zs.map (takP q)).sum := by
  have key : ∀ (zs : List (Rt × Int)) (st : List Int × List Int), st.1.length = n → st.2.length = n → (∀ z ∈ zs, ∀ r, z.1 = some r → (0 ≤ r.1 ∧ r.1 < (n : Int)) ∧ ∀ y, r.2 = some y → 0 ≤ y ∧ y < (n : Int)) →
      (zs.foldl mvStep st).1.getD q 0 = st.1.getD q 0 + (zs.map (movP q)).sum ∧ (zs.foldl mvStep st).2.getD q 0 = st.2.getD q 0 + (zs.map (takP q)).sum := by
    intro zs
    induction zs with
    | nil => intro st _ _ _; simp
    | cons z zs ih =>
      intro st h1 h2 h
      obtain ⟨r, x⟩ := z
      have hz := h (r, x) (by simp)
      have hs : (mvStep st (r, x)).1.length = n ∧ (mvStep st (r, x)).2.length = n := by
        unfold mvStep
        cases r with
        | none => exact ⟨h1, h2⟩
        | some r =>
          refine ⟨by simp only [addAt_len]; exact h1, ?_⟩
          simp only
          cases r.2 with
          | none => exact h2
          | some y => simp only [addAt_len]; exact h2
      have := ih (mvStep st (r, x)) hs.1 hs.2 fun z hz => h z (by simp [hz])
      rw [List.foldl_cons, this.1, this.2]
      simp only [List.map_cons, List.sum_cons]
      cases r with
      | none => simp [mvStep, movP, takP]
      | some r =>
        obtain ⟨a, b⟩ := r
        obtain ⟨ha, hb⟩ := hz (a, b) rfl
        simp only at ha hb
        obtain ⟨an, rfl⟩ : ∃ an : Nat, a = an := ⟨a.toNat, by omega⟩
        constructor
        · simp only [mvStep, movP]
          rw [addAt_get (by omega)]
          by_cases e : an = q
          · simp [e]; omega
          · have : ¬ ((an : Int) = (q : Int)) := by omega
            simp [e, this]
        · simp only [mvStep, takP]
          cases b with
          | none => simp
          | some y =>
            have hy := hb y rfl
            obtain ⟨yn, rfl⟩ : ∃ yn : Nat, y = yn := ⟨y.toNat, by omega⟩
            simp only
            rw [addAt_get (by omega)]
            by_cases e : yn = q
            · simp [e]; omega
            · have : ¬ ((yn : Int) = (q : Int)) := by omega
              simp [e, this]
  have := key zs (zeros n, zeros n) (by simp [zeros]) (by simp [zeros]) h
  have z0 : (zeros n).getD q 0 = 0 := by
    unfold zeros
    rw [List.getD_eq_getElem?_getD, List.getElem?_replicate]
    split <;> rfl
  unfold mvOf
  rw [this.1, this.2]
  simp only [z0]
  omega
/-- double counting -/
theorem mov_sum {N : List Int} (nd : N.Nodup) (m : Int → Bool) : ∀ (zs : List (Rt × Int)), (∀ z ∈ zs, ∀ r, z.1 = some r → r.1 ∈ N) → ((N.filter m).map (fun p => (zs.map (movP p)).sum)).sum = (zs.map (fun z => match z.1 with | some r => if m r.1 = true then z.2 else 0 | none => 0)).sum := by
  intro zs
  induction zs with
  | nil =>
    intro _
    simp only [List.map_nil, List.sum_nil]
    induction (N.filter m) with
    | nil => rfl
    | cons _ _ ih => simp only [List.map_cons, List.sum_cons, ih]; omega
  | cons z zs ih =>
    intro h
    have e1 := ih fun z hz => h z (by simp [hz])
    have split : ∀ l : List Int, (l.map (fun p => ((z :: zs).map (movP p)).sum)).sum = (l.map (fun p => movP p z)).sum + (l.map (fun p => (zs.map (movP p)).sum)).sum := by
      intro l
      induction l with
      | nil => rfl
      | cons x l ih => simp only [List.map_cons, List.sum_cons] at ih ⊢; omega
    rw [split, e1]
    simp only [List.map_cons, List.sum_cons]
    congr 1
    obtain ⟨r, x⟩ := z
    cases r with
    | none =>
      simp only [movP]
      induction (N.filter m) with
      | nil => rfl
      | cons _ _ ih => simp only [List.map_cons, List.sum_cons, ih]; omega
    | some r =>
      have hr := h (some r, x) (by simp) r rfl
      simp only [movP]
      have one : ∀ l : List Int, l.Nodup → (l.map (fun p => if r.1 = p then x else 0)).sum = if r.1 ∈ l then x else 0 := by
        intro l
        induction l with
        | nil => intro _; rfl
        | cons y l ih =>
          intro nd
          have nd' := List.nodup_cons.mp nd
          simp only [List.map_cons, List.sum_cons, ih nd'.2, List.mem_cons]
          by_cases e : r.1 = y
          · have : r.1 ∉ l := e ▸ nd'.1
            simp [e]; rw [← e]; simp [this]
          · simp [e]
      rw [one _ (List.Nodup.sublist (List.filter_sublist ..) nd)]
      by_cases hm : m r.1 = true
      · simp [hm, hr]
      · simp [hm]
theorem tak_sum {N : List Int} (nd : N.Nodup) (m : Int → Bool) : ∀ (zs : List (Rt × Int)), (∀ z ∈ zs, ∀ r, z.1 = some r → ∀ y, r.2 = some y → y ∈ N) → ((N.filter m).map (fun p => (zs.map (takP p)).sum)).sum = (zs.map (fun z => match z.1 with | some r => if inb m r.2 = true then z.2 else 0 | none => 0)).sum := by
  intro zs
  induction zs with
  | nil =>
    intro _
    simp only [List.map_nil, List.sum_nil]
    induction (N.filter m) with
    | nil => rfl
    | cons _ _ ih => simp only [List.map_cons, List.sum_cons, ih]; omega
  | cons z zs ih =>
    intro h
    have e1 := ih fun z hz => h z (by simp [hz])
    have split : ∀ l : List Int, (l.map (fun p => ((z :: zs).map (takP p)).sum)).sum = (l.map (fun p => takP p z)).sum + (l.map (fun p => (zs.map (takP p)).sum)).sum := by
      intro l
      induction l with
      | nil => rfl
      | cons x l ih => simp only [List.map_cons, List.sum_cons] at ih ⊢; omega
    rw [split, e1]
    simp only [List.map_cons, List.sum_cons]
    congr 1
    obtain ⟨r, x⟩ := z
    have zer : ∀ l : List Int, (l.map (fun _ => (0 : Int))).sum = 0 := by
      intro l
      induction l with
      | nil => rfl
      | cons _ _ ih => simp only [List.map_cons, List.sum_cons, ih]; omega
    cases r with
    | none => simp only [takP]; exact zer _
    | some r =>
      have hr := h (some r, x) (by simp) r rfl
      simp only [takP]
      cases hb : r.2 with
      | none => simp only [inb]; simp; exact zer _
      | some y =>
        have hy := hr y hb
        have one : ∀ l : List Int, l.Nodup → (l.map (fun p => if some y = some p then x else 0)).sum = if y ∈ l then x else 0 := by
          intro l
          induction l with
          | nil => intro _; rfl
          | cons q l ih =>
            intro nd
            have nd' := List.nodup_cons.mp nd
            simp only [List.map_cons, List.sum_cons, ih nd'.2, List.mem_cons]
            by_cases e : y = q
            · have : y ∉ l := e ▸ nd'.1
              simp [e]; rw [← e]; simp [this]
            · simp [e]
        rw [one _ (List.Nodup.sublist (List.filter_sublist ..) nd)]
        simp only [inb]
        by_cases hm : m y = true
        · simp [hm, hy]
        · simp [hm]
end Pv
namespace Pv
theorem zs_mem {cs : List Int} {gs : List Gp} {xs : List Int} {z : Rt × Int} (h : z ∈ zsOf cs gs xs) : ∃ g ∈ gs, z.1 = routeOf cs gs g := by
  unfold zsOf at h
  have := (List.of_mem_zip h).1
  obtain ⟨g, hg, e⟩ := List.mem_map.mp this
  exact ⟨g, hg, e.symm⟩
theorem esx_zs (cs : List Int) (gs : List Gp) (xs : List Int) : esx cs gs xs = (zsOf cs gs xs).map fun z => ((z.1, z.2, z.2) : Ed) := by
  unfold esx zsOf
  have : ∀ (hs : List Gp) (xs : List Int), List.zipWith (fun g x => ((routeOf cs gs g, x, x) : Ed)) hs xs = ((hs.map (routeOf cs gs)).zip xs).map fun z => ((z.1, z.2, z.2) : Ed) := by
    intro hs
    induction hs with
    | nil => intro xs; simp
    | cons h hs ih => intro xs; cases xs with | nil => simp | cons x xs => simp [ih]
  exact this gs xs
theorem sum_sub {α : Type} (f g : α → Int) : ∀ l : List α, (l.map (fun x => f x - g x)).sum = (l.map f).sum - (l.map g).sum
  | [] => by simp
  | x :: l => by simp only [List.map_cons, List.sum_cons, sum_sub f g l]; omega
theorem sum_add {α : Type} (f g : α → Int) : ∀ l : List α, (l.map (fun x => f x + g x)).sum = (l.map f).sum + (l.map g).sum
  | [] => by simp
  | x :: l => by simp only [List.map_cons, List.sum_cons, sum_add f g l]; omega
theorem sum_zero {α : Type} {f : α → Int} : ∀ {l : List α}, (∀ x ∈ l, f x = 0) → (l.map f).sum = 0
  | [], _ => by simp
  | x :: l, h => by simp only [List.map_cons, List.sum_cons, h x (by simp), sum_zero (l := l) fun y hy => h y (by simp [hy])]; omega
section
variable {cs : List Int} {gs : List Gp} {xs : List Int}
theorem FS_esx (ok : InsOk cs gs) (m : Int → Bool) : FS (nzP cs gs) (spOf cs gs) m (esx cs gs xs) = (((nzP cs gs).filter m).map (fun p => spOf cs gs p + (((zsOf cs gs xs).map (movP p)).sum - ((zsOf cs gs xs).map (takP p)).sum))).sum := by
  rw [sum_add, sum_sub, mov_sum (nz_nodup cs gs) m (zsOf cs gs xs) ?_, tak_sum (nz_nodup cs gs) m (zsOf cs gs xs) ?_]
  · unfold FS spareS
    rw [esx_zs, List.map_map, ← sum_sub]
    congr 2
    apply List.map_congr_left
    intro z _
    obtain ⟨r, x⟩ := z
    cases r with
    | none => simp [wE, sg]
    | some r =>
      simp only [Function.comp, wE_some]
      cases h1 : inb m r.2 <;> cases h2 : m r.1 <;> simp [wB]
  · intro z hz r hr y hy
    obtain ⟨g, hg, e⟩ := zs_mem hz
    have := (route_wf ok hg (e ▸ hr)).2 y hy
    exact nz_mem.mpr ⟨this.2, by omega⟩
  · intro z hz r hr
    obtain ⟨g, hg, e⟩ := zs_mem hz
    have := cro_mem.mp (route_wf ok hg (e ▸ hr)).1
    exact nz_mem.mpr ⟨this.1, by omega⟩
theorem PS_esx (p : Int) : PS (spOf cs gs) p (esx cs gs xs) = - spOf cs gs p - ((zsOf cs gs xs).map (movP p)).sum := by
  unfold PS
  rw [esx_zs, List.map_map]
  congr 2
theorem ZS_esx : ZS (esx cs gs xs) = - ((zsOf cs gs xs).map (fun z => match z.1 with | none => z.2 | some _ => 0)).sum := by
  unfold ZS
  rw [esx_zs, List.map_map]
  congr 2
theorem exc_get {p : Nat} (h : p < cs.length) : (rExc cs gs)[p]'(by rw [rExc_len]; exact h) = mx (- spOf cs gs p) ∧ (rFre cs gs)[p]'(by rw [rFre_len]; exact h) = mx (spOf cs gs p) := by
  have hd : p < (rDem cs gs).length := by rw [rDem_len]; exact h
  have e1 : (rExc cs gs).getD p 0 = (rExc cs gs)[p]'(by rw [rExc_len]; exact h) := by rw [List.getD_eq_getElem?_getD, List.getElem?_eq_getElem (by rw [rExc_len]; exact h)]; rfl
  have e2 : (rFre cs gs).getD p 0 = (rFre cs gs)[p]'(by rw [rFre_len]; exact h) := by rw [List.getD_eq_getElem?_getD, List.getElem?_eq_getElem (by rw [rFre_len]; exact h)]; rfl
  rw [← e1, ← e2]
  unfold rExc rFre
  rw [exc_at h hd, fre_at h hd]
  unfold spOf
  rw [Int.toNat_natCast, List.getD_eq_getElem?_getD, List.getD_eq_getElem?_getD, List.getElem?_eq_getElem h, List.getElem?_eq_getElem hd]
  simp only [Option.getD_some]
  exact ⟨congrArg mx (by omega), trivial⟩
theorem zs_in (ok : InsOk cs gs) : ∀ z ∈ zsOf cs gs xs, ∀ r, z.1 = some r → (0 ≤ r.1 ∧ r.1 < (cs.length : Int)) ∧ ∀ y, r.2 = some y → 0 ≤ y ∧ y < (cs.length : Int) := by
  intro z hz r hr
  obtain ⟨g, hg, e⟩ := zs_mem hz
  exact route_in ok hg (e ▸ hr)
theorem mov_zero (ok : InsOk cs gs) {p : Int} (h : 0 ≤ spOf cs gs p) : ((zsOf cs gs xs).map (movP p)).sum = 0 := by
  refine sum_zero fun z hz => ?_
  obtain ⟨g, hg, e⟩ := zs_mem hz
  unfold movP
  cases hr : z.1 with
  | none => rfl
  | some r =>
    have h1 := cro_mem.mp (route_wf ok hg (e ▸ hr)).1
    have : r.1 ≠ p := fun e => by rw [e] at h1; omega
    simp [this]
theorem tak_zero (ok : InsOk cs gs) {p : Int} (h : spOf cs gs p ≤ 0) : ((zsOf cs gs xs).map (takP p)).sum = 0 := by
  refine sum_zero fun z hz => ?_
  obtain ⟨g, hg, e⟩ := zs_mem hz
  unfold takP
  cases hr : z.1 with
  | none => rfl
  | some r =>
    have h1 := (route_wf ok hg (e ▸ hr)).2
    have : r.2 ≠ some p := fun e => by have := h1 p e; omega
    simp [this]
theorem all_zip {α : Type} {as bs : List Int} (hl : as.length = bs.length) : (as.zip bs).all (fun z => decide (z.1 ≤ z.2)) = true ↔ ∀ (j : Nat) (h1 : j < as.length) (h2 : j < bs.length), as[j] ≤ bs[j] := by
  rw [List.all_eq_true]
  constructor
  · intro h j h1 h2
    have : (as.zip bs)[j]? = some (as[j], bs[j]) := by rw [List.getElem?_zip_eq_some]; exact ⟨List.getElem?_eq_getElem h1, List.getElem?_eq_getElem h2⟩
    simpa using h _ (List.mem_of_getElem? this)
  · intro h z hz
    obtain ⟨j, hj, e⟩ := List.mem_iff_getElem.mp hz
    rw [List.length_zip] at hj
    have := h j (by omega) (by omega)
    rw [← e]
    simpa using this
/-- the vectors are the integers that keep to all cuts -/
theorem vec_feas (ok : InsOk cs gs) (hb : ∀ z ∈ zsOf cs gs xs, 0 ≤ z.2) : meetsD cs gs xs = true ↔ Feas (nzP cs gs) (spOf cs gs) (rCro cs gs) (esx cs gs xs) := by
  have hlen := mvOf_len cs.length (zsOf cs gs xs)
  have hget := fun q => mv_get (zs_in (xs := xs) ok) q
  have takNN : ∀ p, 0 ≤ ((zsOf cs gs xs).map (takP p)).sum := fun p => sum_nn fun y hy => by
    obtain ⟨z, hz, rfl⟩ := List.mem_map.mp hy
    have := hb z hz
    unfold takP
    split
    · split <;> omega
    · omega
  have g1 : ∀ q (h : q < cs.length), (mvOf cs.length (zsOf cs gs xs)).1[q]'(by omega) = ((zsOf cs gs xs).map (movP q)).sum := fun q h => by
    rw [← (hget q).1, List.getD_eq_getElem?_getD, List.getElem?_eq_getElem (by omega)]; rfl
  have g2 : ∀ q (h : q < cs.length), (mvOf cs.length (zsOf cs gs xs)).2[q]'(by omega) = ((zsOf cs gs xs).map (takP q)).sum := fun q h => by
    rw [← (hget q).2, List.getD_eq_getElem?_getD, List.getElem?_eq_getElem (by omega)]; rfl
  have hm : meetsD cs gs xs = true ↔ (∀ z ∈ zsOf cs gs xs, z.1 = none → z.2 = 0) ∧ (∀ q (h : q < cs.length), ((zsOf cs gs xs).map (movP q)).sum = mx (- spOf cs gs q)) ∧ (∀ q (h : q < cs.length), ((zsOf cs gs xs).map (takP q)).sum ≤ mx (spOf cs gs q)) := by
    unfold meetsD
    rw [Bool.and_eq_true, Bool.and_eq_true, decide_eq_true_iff, all_zip (α := Int) (by rw [hlen.2, rFre_len])]
    refine ⟨fun h => ⟨fun z hz hn => ?_, fun q hq => ?_, fun q hq => ?_⟩, fun h => ⟨⟨?_, ?_⟩, fun j h1 h2 => ?_⟩⟩
    · have := List.all_eq_true.mp h.1.1 z hz
      unfold goodZ at this
      rw [hn] at this
      simpa using this
    · rw [← g1 q hq, ← (exc_get (gs := gs) hq).1]
      congr 1
      exact h.1.2
    · have := h.2 q (by omega) (by rw [rFre_len]; exact hq)
      rw [g2 q hq, (exc_get (gs := gs) hq).2] at this
      exact this
    · rw [List.all_eq_true]
      intro z hz
      unfold goodZ
      cases hr : z.1 with
      | none => simp [h.1 z hz hr]
      | some r => rfl
    · apply List.ext_getElem
      · rw [hlen.1, rExc_len]
      · intro q h1 h2
        have hq : q < cs.length := by omega
        rw [g1 q hq, (exc_get (gs := gs) hq).1, h.2.1 q hq]
    · have hq : j < cs.length := by omega
      rw [g2 j hq, (exc_get (gs := gs) hq).2]
      exact h.2.2 j hq
  rw [hm]
  constructor
  · rintro ⟨hz, hmv, htk⟩
    refine ⟨fun m => ?_, fun p hp => ?_, ?_⟩
    · rw [FS_esx ok]
      refine sum_nn fun y hy => ?_
      obtain ⟨p, hp, rfl⟩ := List.mem_map.mp hy
      have hp := nz_mem.mp (List.mem_filter.mp hp).1
      obtain ⟨pn, rfl⟩ : ∃ pn : Nat, p = pn := ⟨p.toNat, by omega⟩
      have h1 := hmv pn (by omega)
      have h2 := htk pn (by omega)
      unfold mx at h1 h2
      split at h1 <;> split at h2 <;> omega
    · rw [PS_esx]
      have hp := cro_mem.mp hp
      obtain ⟨pn, rfl⟩ : ∃ pn : Nat, p = pn := ⟨p.toNat, by omega⟩
      have h1 := hmv pn (by omega)
      unfold mx at h1
      split at h1 <;> omega
    · rw [ZS_esx, sum_zero]
      · decide
      · intro z hz'
        cases hr : z.1 with
        | none => exact hz z hz' hr
        | some r => rfl
  · intro Fe
    have one : ∀ p : Int, (0 ≤ p ∧ p < (cs.length : Int)) → spOf cs gs p ≠ 0 → 0 ≤ spOf cs gs p + (((zsOf cs gs xs).map (movP p)).sum - ((zsOf cs gs xs).map (takP p)).sum) := by
      intro p hp hs
      have := Fe.set (fun q => decide (q = p))
      rw [FS_esx ok] at this
      have hf : (nzP cs gs).filter (fun q => decide (q = p)) = [p] := by
        have hin : p ∈ nzP cs gs := nz_mem.mpr ⟨hp, hs⟩
        have nd := nz_nodup cs gs
        generalize nzP cs gs = N at hin nd
        induction N with
        | nil => cases hin
        | cons x N ih =>
          have nd' := List.nodup_cons.mp nd
          by_cases e : x = p
          · subst e
            rw [List.filter_cons_of_pos (by simp)]
            congr 1
            rw [List.filter_eq_nil_iff]
            intro q hq
            have : q ≠ x := fun z => nd'.1 (z ▸ hq)
            simp [this]
          · rw [List.filter_cons_of_neg (by simp [e])]
            rcases List.mem_cons.mp hin with h | h
            · exact absurd h.symm e
            · exact ih h nd'.2
      rw [hf] at this
      simpa using this
    refine ⟨fun z hz hn => ?_, fun q hq => ?_, fun q hq => ?_⟩
    · have h1 := Fe.z
      rw [ZS_esx] at h1
      have h2 : z.2 ≤ ((zsOf cs gs xs).map (fun z => match z.1 with | none => z.2 | some _ => 0)).sum := sum_ge (fun y hy => by
        obtain ⟨z', hz', rfl⟩ := List.mem_map.mp hy
        have := hb z' hz'
        split <;> omega) (List.mem_map.mpr ⟨z, hz, by rw [hn]⟩)
      have := hb z hz
      omega
    · by_cases hs : spOf cs gs q < 0
      · have h1 := one q (by omega) (by omega)
        have h2 := Fe.st q (cro_mem.mpr ⟨by omega, hs⟩)
        rw [PS_esx] at h2
        have h3 := tak_zero (xs := xs) ok (p := q) (by omega)
        unfold mx
        split <;> omega
      · have h1 := mov_zero (xs := xs) ok (p := q) (by omega)
        unfold mx
        split <;> omega
    · by_cases hs : 0 < spOf cs gs q
      · have h1 := one q (by omega) (by omega)
        have h3 := mov_zero (xs := xs) ok (p := q) (by omega)
        unfold mx
        split <;> omega
      · have h1 := tak_zero (xs := xs) ok (p := q) (by omega)
        unfold mx
        split <;> omega
end
/-! the program's own lists of cuts -/
def subsL (ps : List Int) : List (List Int) := ps.foldl (fun acc p => acc ++ acc.map (fun s => s ++ [p])) [[]]
theorem subsL_snoc (ps : List Int) (p : Int) : subsL (ps ++ [p]) = subsL ps ++ (subsL ps).map (fun s => s ++ [p]) := by simp [subsL, List.foldl_append]
def mem (s : List Int) (p : Int) : Bool := s.contains p
theorem subs_all (m : Int → Bool) (N : List Int) : N.filter m ∈ subsL N := by
  have : ∀ l : List Int, l.reverse.filter m ∈ subsL l.reverse := by
    intro l
    induction l with
    | nil => simp [subsL]
    | cons x l ih =>
      rw [List.reverse_cons, subsL_snoc, List.filter_append, List.mem_append]
      by_cases h : m x = true
      · right
        rw [List.filter_cons_of_pos h]
        exact List.mem_map.mpr ⟨_, ih, rfl⟩
      · left
        rw [List.filter_cons_of_neg h]
        simpa using ih
  have := this N.reverse
  rwa [List.reverse_reverse] at this
theorem subs_is {N : List Int} (nd : N.Nodup) {s : List Int} (h : s ∈ subsL N) : N.filter (mem s) = s := by
  have : ∀ l : List Int, l.reverse.Nodup → ∀ s ∈ subsL l.reverse, (∀ x ∈ s, x ∈ l.reverse) ∧ l.reverse.filter (mem s) = s := by
    intro l
    induction l with
    | nil => intro _ s hs; simp [subsL] at hs; subst hs; simp
    | cons x l ih =>
      intro nd s hs
      rw [List.reverse_cons] at nd hs ⊢
      have nd' := List.nodup_append.mp nd
      have hx : x ∉ l.reverse := fun h => nd'.2.2 x h x (by simp) rfl
      rw [subsL_snoc, List.mem_append] at hs
      rcases hs with hs | hs
      · obtain ⟨h1, h2⟩ := ih nd'.1 s hs
        have hxs : x ∉ s := fun z => hx (h1 x z)
        refine ⟨fun y hy => by simp [List.mem_reverse.mp (h1 y hy)], ?_⟩
        rw [List.filter_append, h2, List.filter_cons_of_neg (by simpa [mem] using hxs)]
        simp
      · obtain ⟨s', hs', rfl⟩ := List.mem_map.mp hs
        obtain ⟨h1, h2⟩ := ih nd'.1 s' hs'
        refine ⟨fun y hy => ?_, ?_⟩
        · rcases List.mem_append.mp hy with h | h
          · simp [List.mem_reverse.mp (h1 y h)]
          · simp at h; simp [h]
        · rw [List.filter_append, List.filter_cons_of_pos (by simp [mem])]
          congr 1
          conv => rhs; rw [← h2]
          apply List.filter_congr
          intro y hy
          have : y ≠ x := fun z => hx (z ▸ hy)
          simp [mem, this]
  have := (this N.reverse (by simpa using nd) s (by simpa using h)).2
  simpa using this
def zSg : Rt → Int
  | none => 1
  | some _ => 0
def stSg (p : Int) : Rt → Int
  | some r => if r.1 = p then 1 else 0
  | none => 0
section
variable (N : List Int) (sp : Int → Int) (C : List Int)
def slk (es : List Ed) : List Int := ZS es :: (C.map (fun p => PS sp p es) ++ (subsL N).map (fun s => FS N sp (mem s) es))
def sgn (r : Rt) : List Int := zSg r :: (C.map (fun p => stSg p r) ++ (subsL N).map (fun s => sg (mem s) r))
end
def lows (sl sg : List Int) (c : Int) : List Int := ((sl.zip sg).filter (fun z => decide (z.2 < 0))).map (fun z => c - z.1)
def highs (sl sg : List Int) : List Int := ((sl.zip sg).filter (fun z => decide (0 < z.2))).map (fun z => z.1)
theorem zip_app {α β : Type} {a1 a2 : List α} {b1 b2 : List β} (h : a1.length = b1.length) : (a1 ++ a2).zip (b1 ++ b2) = a1.zip b1 ++ a2.zip b2 := List.zip_append h
theorem zip_maps {α : Type} (f g : α → Int) (l : List α) : (l.map f).zip (l.map g) = l.map (fun x => (f x, g x)) := by
  induction l with
  | nil => rfl
  | cons x l ih => simp [ih]
theorem slk_zip (N : List Int) (sp : Int → Int) (C : List Int) (es : List Ed) (r : Rt) : (slk N sp C es).zip (sgn N C r) = (ZS es, zSg r) :: (C.map (fun p => (PS sp p es, stSg p r)) ++ (subsL N).map (fun s => (FS N sp (mem s) es, sg (mem s) r))) := by
  unfold slk sgn
  rw [List.zip_cons_cons, zip_app (by simp), zip_maps, zip_maps]
/-- FS looks at a set only by its posts in N -/
theorem FS_mem {N : List Int} {sp : Int → Int} {es : List Ed} (hes : ∀ e ∈ es, ∀ r, e.1 = some r → r.1 ∈ N ∧ ∀ y, r.2 = some y → y ∈ N) (m : Int → Bool) : FS N sp (mem (N.filter m)) es = FS N sp m es := by
  have hm : ∀ p ∈ N, mem (N.filter m) p = m p := by
    intro p hp
    unfold mem
    rw [Bool.eq_iff_iff, List.contains_iff_mem, List.mem_filter]
    exact ⟨fun h => h.2, fun h => ⟨hp, h⟩⟩
  unfold FS spareS
  congr 1
  · rw [List.filter_congr hm]
  · congr 1
    apply List.map_congr_left
    intro e he
    obtain ⟨r, l, u⟩ := e
    cases r with
    | none => simp [wE, sg]
    | some r =>
      have h1 := hes _ he r rfl
      rw [wE_some, wE_some, hm _ h1.1]
      congr 1
      cases hr : r.2 with
      | none => rfl
      | some y => exact hm y (h1.2 y hr)
theorem sg_mem {N : List Int} {r : Rt} (h : ∀ q, r = some q → q.1 ∈ N ∧ ∀ y, q.2 = some y → y ∈ N) (m : Int → Bool) : sg (mem (N.filter m)) r = sg m r := by
  have hm : ∀ p ∈ N, mem (N.filter m) p = m p := by
    intro p hp
    unfold mem
    rw [Bool.eq_iff_iff, List.contains_iff_mem, List.mem_filter]
    exact ⟨fun h => h.2, fun h => ⟨hp, h⟩⟩
  cases r with
  | none => rfl
  | some q =>
    have h1 := h q rfl
    have : inb (mem (N.filter m)) q.2 = inb m q.2 := by
      cases hr : q.2 with
      | none => rfl
      | some y => exact hm y (h1.2 y hr)
    simp only [sg, hm _ h1.1, this]
end Pv
namespace Pv
def IsMax (a : Int) (l : List Int) : Prop := a ∈ l ∧ ∀ y ∈ l, y ≤ a
def IsMin (a : Int) (l : List Int) : Prop := a ∈ l ∧ ∀ y ∈ l, a ≤ y
section
variable {N : List Int} {sp : Int → Int} {C : List Int} {es : List Ed}
theorem low_mem {r : Rt} {c y : Int} : y ∈ lows (slk N sp C es) (sgn N C r) c ↔ ∃ s ∈ subsL N, sg (mem s) r < 0 ∧ y = c - FS N sp (mem s) es := by
  unfold lows
  rw [slk_zip]
  simp only [List.mem_map, List.mem_filter, List.mem_cons, List.mem_append, decide_eq_true_eq]
  constructor
  · rintro ⟨z, ⟨h | h | h, hn⟩, rfl⟩
    · subst h; simp only at hn; cases r <;> simp [zSg] at hn
    · obtain ⟨p, hp, rfl⟩ := h; simp only at hn; cases r with | none => simp [stSg] at hn | some r => simp only [stSg] at hn; split at hn <;> omega
    · obtain ⟨s, hs, rfl⟩ := h; exact ⟨s, hs, hn, rfl⟩
  · rintro ⟨s, hs, hn, rfl⟩
    exact ⟨_, ⟨.inr (.inr ⟨s, hs, rfl⟩), hn⟩, rfl⟩
theorem high_mem {r : Rt} {y : Int} : y ∈ highs (slk N sp C es) (sgn N C r) ↔ (r = none ∧ y = ZS es) ∨ (∃ q, r = some q ∧ q.1 ∈ C ∧ y = PS sp q.1 es) ∨ ∃ s ∈ subsL N, 0 < sg (mem s) r ∧ y = FS N sp (mem s) es := by
  unfold highs
  rw [slk_zip]
  simp only [List.mem_map, List.mem_filter, List.mem_cons, List.mem_append, decide_eq_true_eq]
  constructor
  · rintro ⟨z, ⟨h | h | h, hn⟩, rfl⟩
    · subst h
      simp only at hn
      cases r with
      | none => exact .inl ⟨rfl, rfl⟩
      | some r => simp [zSg] at hn
    · obtain ⟨p, hp, rfl⟩ := h
      simp only at hn
      cases r with
      | none => simp [stSg] at hn
      | some r =>
        simp only [stSg] at hn
        split at hn
        case isTrue e => exact .inr (.inl ⟨r, rfl, e ▸ hp, by rw [e]⟩)
        case isFalse e => omega
    · obtain ⟨s, hs, rfl⟩ := h; exact .inr (.inr ⟨s, hs, hn, rfl⟩)
  · rintro (⟨rfl, rfl⟩ | ⟨q, rfl, hq, rfl⟩ | ⟨s, hs, hn, rfl⟩)
    · exact ⟨_, ⟨.inl rfl, by simp [zSg]⟩, rfl⟩
    · exact ⟨_, ⟨.inr (.inl ⟨q.1, hq, rfl⟩), by simp [stSg]⟩, rfl⟩
    · exact ⟨_, ⟨.inr (.inr ⟨s, hs, rfl⟩), hn⟩, rfl⟩
def RIn (N : List Int) (es : List Ed) : Prop := ∀ e ∈ es, ∀ r, e.1 = some r → r.1 ∈ N ∧ ∀ y, r.2 = some y → y ∈ N
/-- the range that the program tells is what is open -/
theorem range_ok (W : Wf N C es) (R : RIn N es) (Fe : Feas N sp C es) {j : Nat} {r : Rt} {c : Int} (he : es[j]? = some (r, 0, c)) {a b : Int} (ha : IsMax a (0 :: lows (slk N sp C es) (sgn N C r) c)) (hb : IsMin b (c :: highs (slk N sp C es) (sgn N C r))) :
    (0 ≤ a ∧ a ≤ c ∧ Opn N sp es (r, 0, c) a) ∧ (0 ≤ b ∧ b ≤ c ∧ Opn N sp es (r, 0, c) b) ∧ ∀ x, 0 ≤ x → x ≤ c → (Opn N sp es (r, 0, c) x ↔ a ≤ x ∧ x ≤ b) := by
  have hm := List.mem_of_getElem? he
  have hc : (0 : Int) ≤ c := W.lu _ hm
  have hr : ∀ q, r = some q → q.1 ∈ N ∧ ∀ y, q.2 = some y → y ∈ N := fun q e => R _ hm q e
  have lo : ∀ m, sg m r < 0 → c - FS N sp m es ≤ a := by
    intro m h
    refine ha.2 _ (List.mem_cons_of_mem _ (low_mem.mpr ⟨N.filter m, subs_all m N, by rw [sg_mem hr]; exact h, by rw [FS_mem R]⟩))
  have hi : ∀ m, 0 < sg m r → b ≤ FS N sp m es := by
    intro m h
    refine hb.2 _ (List.mem_cons_of_mem _ (high_mem.mpr (.inr (.inr ⟨N.filter m, subs_all m N, by rw [sg_mem hr]; exact h, by rw [FS_mem R]⟩))))
  have hp : ∀ q, r = some q → b ≤ PS sp q.1 es := fun q e => hb.2 _ (List.mem_cons_of_mem _ (high_mem.mpr (.inr (.inl ⟨q, e, W.a _ hm q e, rfl⟩))))
  have hz : r = none → b ≤ ZS es := fun e => hb.2 _ (List.mem_cons_of_mem _ (high_mem.mpr (.inl ⟨e, rfl⟩)))
  have a0 : 0 ≤ a := ha.2 0 (by simp)
  have bc : b ≤ c := hb.2 c (by simp)
  have oa : Opn N sp es (r, 0, c) a := by
    refine opn_least W Fe hm lo ?_
    rcases List.mem_cons.mp ha.1 with h | h
    · exact .inl h
    · obtain ⟨s, _, h1, h2⟩ := low_mem.mp h
      exact .inr ⟨mem s, h1, h2⟩
  have ob : Opn N sp es (r, 0, c) b := by
    refine opn_most W Fe hm (fun m h => by have := hi m h; simp only; omega) (fun q e => by have := hp q e; simp only; omega) (fun e => by have := hz e; simp only; omega) ?_
    rcases List.mem_cons.mp hb.1 with h | h
    · exact .inl h
    · rcases high_mem.mp h with ⟨e, h⟩ | ⟨q, e, _, h⟩ | ⟨s, _, h1, h2⟩
      · exact .inr (.inr (.inr ⟨e, by simp only; omega⟩))
      · exact .inr (.inr (.inl ⟨q, e, by simp only; omega⟩))
      · exact .inr (.inl ⟨mem s, h1, by simp only; omega⟩)
  have ac : a ≤ c := by
    rcases List.mem_cons.mp ha.1 with h | h
    · omega
    · obtain ⟨s, _, h1, h2⟩ := low_mem.mp h
      have := Fe.set (mem s)
      omega
  have b0 : 0 ≤ b := by
    rcases List.mem_cons.mp hb.1 with h | h
    · omega
    · rcases high_mem.mp h with ⟨e, h⟩ | ⟨q, e, hq, h⟩ | ⟨s, _, h1, h2⟩
      · have := Fe.z; omega
      · have := Fe.st _ hq; omega
      · have := Fe.set (mem s); omega
  refine ⟨⟨a0, ac, oa⟩, ⟨b0, bc, ob⟩, fun x x0 xc => ⟨fun o => ⟨?_, ?_⟩, fun h => ⟨fun m hm => ?_, fun m hm => ?_, fun q e => ?_, fun e => ?_⟩⟩⟩
  · rcases List.mem_cons.mp ha.1 with h | h
    · omega
    · obtain ⟨s, _, h1, h2⟩ := low_mem.mp h
      have := o.lo (mem s) h1
      simp only at this; omega
  · rcases List.mem_cons.mp hb.1 with h | h
    · omega
    · rcases high_mem.mp h with ⟨e, h⟩ | ⟨q, e, hq, h⟩ | ⟨s, _, h1, h2⟩
      · have := o.z e; simp only at this; omega
      · have := o.p q e; simp only at this; omega
      · have := o.hi (mem s) h1; simp only at this; omega
  · have := lo m hm; simp only; omega
  · have := hi m hm; simp only; omega
  · have := hp q e; simp only; omega
  · have := hz e; simp only; omega
/-- what a group's integer takes of each slack -/
def used (c x s : Int) : Int := if s < 0 then c - x else if 0 < s then x else 0
end
/-! vectors -/
def IsVec (cs : List Int) (gs : List Gp) (xs : List Int) : Prop := xs.length = gs.length ∧ (∀ (j : Nat) (g : Gp) (x : Int), gs[j]? = some g → xs[j]? = some x → 0 ≤ x ∧ x ≤ g.2) ∧ meetsD cs gs xs = true
abbrev FeasI (cs : List Int) (gs : List Gp) (es : List Ed) : Prop := Feas (nzP cs gs) (spOf cs gs) (rCro cs gs) es
section
variable {cs : List Int} {gs : List Gp} {xs : List Int}
theorem zs_nn (hl : xs.length = gs.length) (hb : ∀ (j : Nat) (g : Gp) (x : Int), gs[j]? = some g → xs[j]? = some x → 0 ≤ x ∧ x ≤ g.2) : ∀ z ∈ zsOf cs gs xs, 0 ≤ z.2 := by
  intro z hz
  obtain ⟨j, hj, e⟩ := List.mem_iff_getElem.mp hz
  have hjg : j < gs.length := by have := hj; unfold zsOf at this; rw [List.length_zip, List.length_map] at this; omega
  have e2 := zs_at (cs := cs) hl hjg
  rw [List.getElem?_eq_getElem hj, e] at e2
  cases e2
  exact (hb j gs[j] xs[j] (List.getElem?_eq_getElem hjg) (List.getElem?_eq_getElem (by omega))).1
theorem vec_iff (ok : InsOk cs gs) : IsVec cs gs xs ↔ xs.length = gs.length ∧ (∀ (j : Nat) (g : Gp) (x : Int), gs[j]? = some g → xs[j]? = some x → 0 ≤ x ∧ x ≤ g.2) ∧ FeasI cs gs (esx cs gs xs) := by
  unfold IsVec
  constructor
  · rintro ⟨h1, h2, h3⟩; exact ⟨h1, h2, (vec_feas ok (zs_nn h1 h2)).mp h3⟩
  · rintro ⟨h1, h2, h3⟩; exact ⟨h1, h2, (vec_feas ok (zs_nn h1 h2)).mpr h3⟩
theorem rin_es0 (ok : InsOk cs gs) : RIn (nzP cs gs) (es0 cs gs) := by
  intro e he r hr
  obtain ⟨g, hg, rfl⟩ := List.mem_map.mp he
  have h := route_wf ok hg hr
  have h1 := cro_mem.mp h.1
  exact ⟨nz_mem.mpr ⟨h1.1, by omega⟩, fun y hy => by have := h.2 y hy; exact nz_mem.mpr ⟨this.2, by omega⟩⟩
/-- groups j with their integers, the others open -/
theorem vec_of_feas (ok : InsOk cs gs) {es : List Ed} (hl : es.length = gs.length) (hr : ∀ (j : Nat) (e : Ed) (g : Gp), es[j]? = some e → gs[j]? = some g → e.1 = routeOf cs gs g ∧ 0 ≤ e.2.1 ∧ e.2.1 ≤ e.2.2 ∧ e.2.2 ≤ g.2) (Fe : FeasI cs gs es) :
    ∃ xs, IsVec cs gs xs ∧ ∀ (j : Nat) (e : Ed) (x : Int), es[j]? = some e → xs[j]? = some x → e.2.1 ≤ x ∧ x ≤ e.2.2 := by
  have W : Wf (nzP cs gs) (rCro cs gs) es := wf_of ok fun e he => by
    obtain ⟨j, hj, e1⟩ := List.mem_iff_getElem.mp he
    have := hr j e gs[j] (by rw [List.getElem?_eq_getElem hj, e1]) (List.getElem?_eq_getElem (by omega))
    exact ⟨this.2.2.1, gs[j], List.getElem_mem _, this.1⟩
  obtain ⟨xs, lx, bx, Fx⟩ := complete W Fe
  refine ⟨xs, (vec_iff ok).mpr ⟨by omega, fun j g x hg hx => ?_, ?_⟩, bx⟩
  · have hj : j < es.length := by have := (List.getElem?_eq_some_iff.mp hg).1; omega
    have h1 := bx j es[j] x (List.getElem?_eq_getElem hj) hx
    have h2 := hr j es[j] g (List.getElem?_eq_getElem hj) hg
    omega
  · have : List.zipWith (fun (e : Ed) x => ((e.1, x, x) : Ed)) es xs = esx cs gs xs := by
      unfold esx
      apply List.ext_getElem
      · simp; omega
      · intro j h1 h2
        rw [List.length_zipWith] at h1
        rw [List.getElem_zipWith, List.getElem_zipWith]
        rw [(hr j es[j] gs[j] (List.getElem?_eq_getElem (by omega)) (List.getElem?_eq_getElem (by omega))).1]
    rw [this] at Fx
    exact Fx
theorem feas_of_vec (ok : InsOk cs gs) (hv : IsVec cs gs xs) {es : List Ed} (hl : es.length = gs.length) (hr : ∀ (j : Nat) (e : Ed) (g : Gp) (x : Int), es[j]? = some e → gs[j]? = some g → xs[j]? = some x → e.1 = routeOf cs gs g ∧ e.2.1 ≤ x ∧ x ≤ e.2.2) : FeasI cs gs es := by
  obtain ⟨h1, h2, h3⟩ := (vec_iff ok).mp hv
  refine feas_loose h3 (by unfold esx; rw [List.length_zipWith]; omega) fun j e f he hf => ?_
  have hj : j < gs.length := by have := (List.getElem?_eq_some_iff.mp he).1; omega
  have hf2 : f = (routeOf cs gs gs[j], xs[j], xs[j]) := by
    unfold esx at hf
    rw [List.getElem?_zipWith, List.getElem?_eq_getElem hj, List.getElem?_eq_getElem (show j < xs.length by omega)] at hf
    simpa using hf.symm
  have := hr j e gs[j] xs[j] he (List.getElem?_eq_getElem hj) (List.getElem?_eq_getElem (by omega))
  subst hf2
  exact this
theorem es0_at {j : Nat} {g : Gp} (hg : gs[j]? = some g) : (es0 cs gs)[j]? = some (routeOf cs gs g, 0, g.2) := by
  unfold es0; rw [List.getElem?_map, hg]; rfl
/-- there is a vector exactly if all cuts have slack -/
theorem some_vec (ok : InsOk cs gs) : (∃ xs, IsVec cs gs xs) ↔ FeasI cs gs (es0 cs gs) := by
  constructor
  · rintro ⟨xs, hv⟩
    refine feas_of_vec ok hv (by simp [es0]) fun j e g x he hg hx => ?_
    rw [es0_at hg] at he
    cases he
    exact ⟨rfl, hv.2.1 j g x hg hx⟩
  · intro Fe
    obtain ⟨xs, hv, _⟩ := vec_of_feas ok (by simp [es0]) (fun j e g he hg => by
      rw [es0_at hg] at he
      cases he
      exact ⟨rfl, Int.le_refl _, by have := (ok.gp g (List.mem_of_getElem? hg)).2.2.1; simp only; omega, Int.le_refl _⟩) Fe
    exact ⟨xs, hv⟩
/-- the range of a group in all vectors -/
theorem range_vec (ok : InsOk cs gs) (Fe : FeasI cs gs (es0 cs gs)) {j : Nat} {g : Gp} (hg : gs[j]? = some g) {a b : Int} (ha : IsMax a (0 :: lows (slk (nzP cs gs) (spOf cs gs) (rCro cs gs) (es0 cs gs)) (sgn (nzP cs gs) (rCro cs gs) (routeOf cs gs g)) g.2))
    (hb : IsMin b (g.2 :: highs (slk (nzP cs gs) (spOf cs gs) (rCro cs gs) (es0 cs gs)) (sgn (nzP cs gs) (rCro cs gs) (routeOf cs gs g)))) :
    (∃ xs, IsVec cs gs xs ∧ xs[j]? = some a) ∧ (∃ xs, IsVec cs gs xs ∧ xs[j]? = some b) ∧ (∀ xs x, IsVec cs gs xs → xs[j]? = some x → a ≤ x ∧ x ≤ b) ∧ ∀ x, a ≤ x → x ≤ b → ∃ xs, IsVec cs gs xs ∧ xs[j]? = some x := by
  have he := es0_at (cs := cs) hg
  have W := wf_es0 ok
  obtain ⟨⟨a0, ac, oa⟩, ⟨b0, bc, ob⟩, hx⟩ := range_ok W (rin_es0 ok) Fe he ha hb
  have hjg := (List.getElem?_eq_some_iff.mp hg).1
  have ex : ∀ x, 0 ≤ x → x ≤ g.2 → Opn (nzP cs gs) (spOf cs gs) (es0 cs gs) (routeOf cs gs g, 0, g.2) x → ∃ xs, IsVec cs gs xs ∧ xs[j]? = some x := by
    intro x x0 xc o
    have F' := (opn_iff W Fe he x).mpr o
    obtain ⟨xs, hv, bx⟩ := vec_of_feas ok (by simp [es0]) (fun k e g' he' hg' => by
      by_cases hk : k = j
      · subst hk
        rw [List.getElem?_set_self (by simp [es0]; exact hjg)] at he'
        rw [hg] at hg'
        cases he'
        cases hg'
        exact ⟨rfl, x0, Int.le_refl _, xc⟩
      · rw [List.getElem?_set_ne (fun z => hk z.symm), es0_at hg'] at he'
        cases he'
        exact ⟨rfl, Int.le_refl _, by have := (ok.gp g' (List.mem_of_getElem? hg')).2.2.1; simp only; omega, Int.le_refl _⟩) F'
    refine ⟨xs, hv, ?_⟩
    have hjx : j < xs.length := by rw [hv.1]; exact hjg
    have := bx j _ xs[j] (List.getElem?_set_self (by simp [es0]; exact hjg)) (List.getElem?_eq_getElem hjx)
    rw [List.getElem?_eq_getElem hjx]
    simp only at this
    congr 1; omega
  refine ⟨ex a a0 ac oa, ex b b0 bc ob, fun xs x hv hxj => ?_, fun x h1 h2 => ex x (by omega) (by omega) ((hx x (by omega) (by omega)).mpr ⟨h1, h2⟩)⟩
  have hb := hv.2.1 j g x hg hxj
  refine (hx x hb.1 hb.2).mp ?_
  refine (opn_iff W Fe he x).mp (feas_of_vec ok hv (by simp [es0]) fun k e g' y he' hg' hy => ?_)
  by_cases hk : k = j
  · subst hk
    rw [List.getElem?_set_self (by simp [es0]; exact hjg)] at he'
    rw [hg] at hg'
    rw [hxj] at hy
    cases he'
    cases hg'
    cases hy
    exact ⟨rfl, Int.le_refl _, Int.le_refl _⟩
  · rw [List.getElem?_set_ne (fun z => hk z.symm), es0_at hg'] at he'
    cases he'
    exact ⟨rfl, hv.2.1 k g' y hg' hy⟩
end
end Pv
namespace Pv
open PySem PySem.Spec PyProof.Rows L2
/-! a comprehension whose elements show what R tells, as long as the lists that are not X stand -/
def LcX {α β : Type} (R : Hp → V → β → Prop) (H1 : Hp) (D : Addr) (zs : List α) (F : α → Option β) (i : Nat) (H : Hp) : Prop := Same H1 H ∧ ∃ vs, H D = some (.lst vs) ∧ Rl (R H) vs ((zs.take i).filterMap F)
section
variable {α β : Type} {X : Addr → Prop} {R : Hp → V → β → Prop} {H1 H H' : Hp} {D : Addr} {zs : List α} {F : α → Option β} {i : Nat} {x : α} {y : V} {b : β}
theorem LcX.start (nD : H1 D = none) : LcX R H1 D zs F 0 (upd H1 D (.lst [])) := ⟨sameNew nD, [], upd_same, by simpa using Rl.nil⟩
theorem LcX.yes (hR : ∀ H H' v b, LX X H H' → R H v b → R H' v b) (hX : X D) (h : LcX R H1 D zs F i H) (nD : H1 D = none) (s : Same H H') (hx : zs[i]? = some x) (hF : F x = some b) (hy : R H' y b) (hi : i ≤ 1000000) : ∃ acc, H' D = some (.lst acc) ∧ acc.length < sizeLine ∧ LcX R H1 D zs F (i + 1) (upd H' D (.lst (acc ++ [y]))) := by
  obtain ⟨s1, vs, e, hv⟩ := h
  have e' := s _ _ e
  refine ⟨vs, e', ?_, samePut (s1.trans s) nD, vs ++ [y], upd_same, ?_⟩
  · have h1 := List.length_filterMap_le F (zs.take i)
    have h2 := List.length_take_le i zs
    rw [hv.1]
    exact small (by omega)
  · have tk : LX X H' (upd H' D (.lst (vs ++ [y]))) := .put e' hX
    rw [take_snoc hx, List.filterMap_append]
    simp only [List.filterMap_cons, hF, List.filterMap_nil]
    exact Rl.snoc (hv.mono fun v r h => hR _ _ _ _ ((LX.of s).trans tk) h) (hR _ _ _ _ tk hy)
theorem LcX.no (hR : ∀ H H' v b, LX X H H' → R H v b → R H' v b) (h : LcX R H1 D zs F i H) (s : Same H H') (hx : zs[i]? = some x) (hF : F x = none) : LcX R H1 D zs F (i + 1) H' := by
  obtain ⟨s1, vs, e, hv⟩ := h
  refine ⟨s1.trans s, vs, s _ _ e, ?_⟩
  rw [take_snoc hx, List.filterMap_append]
  simp only [List.filterMap_cons, hF, List.filterMap_nil, List.append_nil]
  exact hv.mono fun v r h => hR _ _ _ _ (.of s) h
theorem LcX.done (h : LcX R H1 D zs F i H) (hi : zs.length ≤ i) : ∃ vs, H D = some (.lst vs) ∧ Rl (R H) vs (zs.filterMap F) := by
  obtain ⟨_, vs, e, hv⟩ := h
  rw [List.take_of_length_le hi] at hv
  exact ⟨vs, e, hv⟩
end
theorem fm_mapI {α : Type} (f : α → Int) (l : List α) : l.filterMap (fun x => some (V.int (f x))) = (l.map f).map V.int := by rw [fm_map, List.map_map]; rfl
/-! cuts in the heap -/
def CuV (X : Addr → Prop) (K : PySem.W.Frag) (H : Hp) (v : V) (c : Int × List Int) : Prop := ∃ T q, v = .ref T ∧ SqT K H T [.int c.1, .ref q] ∧ ¬ X q ∧ H q = some (.lst (c.2.map V.int))
theorem CuV.lx {X : Addr → Prop} {K : PySem.W.Frag} {H H' : Hp} {v : V} {c : Int × List Int} (h : CuV X K H v c) (l : LX X H H') : CuV X K H' v c := by
  obtain ⟨T, q, e, h1, h2, h3⟩ := h; exact ⟨T, q, e, l.tk.sq h1, h2, l.ls _ _ h3 h2⟩
theorem CuV.weak {X X' : Addr → Prop} {K : PySem.W.Frag} {H : Hp} {v : V} {c : Int × List Int} (h : CuV X K H v c) (w : ∀ a, X' a → X a) : CuV X' K H v c := by
  obtain ⟨T, q, e, h1, h2, h3⟩ := h; exact ⟨T, q, e, h1, fun z => h2 (w _ z), h3⟩
theorem RtAll.at {K : PySem.W.Frag} {H : Hp} {vs : List V} {rs : List Rt} {j : Nat} {v : V} (h : RtAll K H vs rs) (hv : vs[j]? = some v) : ∃ r, rs[j]? = some r ∧ RtV K H v r := by
  have hj : j < rs.length := by rw [← h.1]; exact (List.getElem?_eq_some_iff.mp hv).1
  exact ⟨rs[j], List.getElem?_eq_getElem hj, h.2 j v _ hv (List.getElem?_eq_getElem hj)⟩
/-! the program's numbers -/
def spareL (cs : List Int) (gs : List Gp) : List Int := (cs.zip (rDem cs gs)).map fun q => q.1 - q.2
theorem spareL_len (cs : List Int) (gs : List Gp) : (spareL cs gs).length = cs.length := by simp [spareL, rDem_len]
theorem spareL_at {cs : List Int} {gs : List Gp} {p : Nat} (h : p < cs.length) : (spareL cs gs)[p]'(by rw [spareL_len]; exact h) = spOf cs gs p := by
  have hd : p < (rDem cs gs).length := by rw [rDem_len]; exact h
  have e : (spareL cs gs)[p]? = some (cs[p] - (rDem cs gs)[p]) := by
    unfold spareL
    rw [List.getElem?_map, (List.getElem?_zip_eq_some.mpr ⟨List.getElem?_eq_getElem h, List.getElem?_eq_getElem hd⟩ : (cs.zip (rDem cs gs))[p]? = some (cs[p], (rDem cs gs)[p]))]
    rfl
  have e2 : (spareL cs gs)[p]? = some ((spareL cs gs)[p]'(by rw [spareL_len]; exact h)) := List.getElem?_eq_getElem _
  rw [e] at e2
  rw [← Option.some.inj e2]
  unfold spOf
  rw [Int.toNat_natCast, List.getD_eq_getElem?_getD, List.getD_eq_getElem?_getD, List.getElem?_eq_getElem h, List.getElem?_eq_getElem hd]
  rfl
/-- the posts by their spare places -/
theorem spare_posts (cs : List Int) (gs : List Gp) (f : Int → Bool) : ((List.range (spareL cs gs).length).filterMap fun (k : Nat) => if f ((spareL cs gs).getD k 0) = true then some (k : Int) else none) = ((List.range cs.length).map (fun (k : Nat) => (k : Int))).filter (fun p => f (spOf cs gs p)) := by
  rw [spareL_len, List.filter_map]
  have : ∀ l : List Nat, (∀ k ∈ l, k < cs.length) → (l.filterMap fun (k : Nat) => if f ((spareL cs gs).getD k 0) = true then some (k : Int) else none) = (l.filter ((fun p => f (spOf cs gs p)) ∘ fun (k : Nat) => (k : Int))).map (fun (k : Nat) => (k : Int)) := by
    intro l
    induction l with
    | nil => intro _; rfl
    | cons k l ih =>
      intro h
      have hk := h k (by simp)
      have e : (spareL cs gs).getD k 0 = spOf cs gs k := by rw [List.getD_eq_getElem?_getD, List.getElem?_eq_getElem (by rw [spareL_len]; exact hk), Option.getD_some, spareL_at hk]
      have ih := ih fun k hk => h k (by simp [hk])
      by_cases hf : f (spOf cs gs k) = true
      · rw [List.filterMap_cons_some (b := (k : Int)) (by rw [e, if_pos hf]), ih, List.filter_cons_of_pos (by simpa using hf)]; rfl
      · rw [List.filterMap_cons_none (by rw [e, if_neg hf]), ih, List.filter_cons_of_neg (by simpa using hf)]
  exact this _ fun k hk => List.mem_range.mp hk
theorem cro_list (cs : List Int) (gs : List Gp) : rCro cs gs = ((List.range cs.length).map (fun (k : Nat) => (k : Int))).filter (fun p => decide (spOf cs gs p < 0)) := by
  unfold rCro sel
  rw [List.filter_map]
  congr 1
  apply List.filter_congr
  intro k hk
  have hk := List.mem_range.mp hk
  rw [Function.comp, List.getD_eq_getElem?_getD, List.getElem?_eq_getElem (by rw [rExc_len]; exact hk), Option.getD_some, (exc_get hk).1, decide_eq_decide]
  unfold mx
  split <;> omega
theorem feas0 {cs : List Int} {gs : List Gp} (ok : InsOk cs gs) (h : ∀ s ∈ subsL (nzP cs gs), 0 ≤ FS (nzP cs gs) (spOf cs gs) (mem s) (es0 cs gs)) : FeasI cs gs (es0 cs gs) := by
  refine ⟨fun m => ?_, fun p hp => ?_, ?_⟩
  · rw [← FS_mem (rin_es0 ok)]; exact h _ (subs_all m _)
  · have hp := cro_mem.mp hp
    unfold PS
    rw [sum_zero fun e he => ?_]
    · omega
    · obtain ⟨g, hg, rfl⟩ := List.mem_map.mp he
      unfold lP
      split
      · split <;> rfl
      · rfl
  · unfold ZS
    rw [sum_zero fun e he => ?_]
    · decide
    · obtain ⟨g, hg, rfl⟩ := List.mem_map.mp he
      unfold lZ
      split <;> rfl
theorem ZS0 (cs : List Int) (gs : List Gp) : ZS (es0 cs gs) = 0 := by
  unfold ZS
  rw [sum_zero fun e he => ?_]
  · rfl
  · obtain ⟨g, hg, rfl⟩ := List.mem_map.mp he
    unfold lZ
    split <;> rfl
theorem PS0 (cs : List Int) (gs : List Gp) (p : Int) : PS (spOf cs gs) p (es0 cs gs) = - spOf cs gs p := by
  unfold PS
  rw [sum_zero fun e he => ?_]
  · omega
  · obtain ⟨g, hg, rfl⟩ := List.mem_map.mp he
    unfold lP
    split
    · split <;> rfl
    · rfl
/-- the slack of a set of posts, as the program adds it up -/
theorem FS0 {cs : List Int} {gs : List Gp} {s : List Int} (hs : s ∈ subsL (nzP cs gs)) : FS (nzP cs gs) (spOf cs gs) (mem s) (es0 cs gs) = (s.map (spOf cs gs)).sum + ((gs.filter (fun g => decide (sg (mem s) (routeOf cs gs g) < 0))).map (fun g => g.2)).sum := by
  unfold FS spareS
  rw [subs_is (nz_nodup cs gs) hs]
  congr 1
  unfold es0
  rw [List.map_map]
  clear hs
  generalize routeOf cs gs = ro
  induction gs with
  | nil => rfl
  | cons g gs ih =>
    simp only [List.map_cons, List.sum_cons, Function.comp] at ih ⊢
    rw [ih]
    by_cases h : sg (mem s) (ro g) < 0
    · rw [List.filter_cons_of_pos (by simpa using h)]
      simp [wE, h]
    · rw [List.filter_cons_of_neg (by simpa using h)]
      have : wE (mem s) (ro g, 0, g.2) = 0 := by unfold wE; simp [h]
      rw [this]; omega
theorem sg_val (s : List Int) (r : Int × Option Int) : sg (mem s) (some r) = (if inV (oV r.2) (s.map V.int) = true then 1 else 0) - (if inV (.int r.1) (s.map V.int) = true then 1 else 0) := by
  have h1 : inV (.int r.1) (s.map V.int) = mem s r.1 := inV_ints _ _
  have h2 : inV (oV r.2) (s.map V.int) = inb (mem s) r.2 := by
    cases hr : r.2 with
    | none => exact inV_opt [] s
    | some y => exact inV_ints _ _
  rw [h1, h2]; rfl
theorem fmCongr {α β : Type} {f g : α → Option β} : ∀ {l : List α}, (∀ x ∈ l, f x = g x) → l.filterMap f = l.filterMap g
  | [], _ => rfl
  | x :: l, h => by
    have h1 := h x (by simp)
    have h2 := fmCongr (l := l) fun y hy => h y (by simp [hy])
    simp only [List.filterMap_cons, h1, h2]
def cutF (cs : List Int) (gs : List Gp) : List (Int × List Int) := [(0, (gs.map (routeOf cs gs)).map zSg)] ++ (rCro cs gs).map (fun p => (- spOf cs gs p, (gs.map (routeOf cs gs)).map (stSg p))) ++ (subsL (nzP cs gs)).map (fun s => (FS (nzP cs gs) (spOf cs gs) (mem s) (es0 cs gs), (gs.map (routeOf cs gs)).map (sg (mem s))))
theorem cutF_slk (cs : List Int) (gs : List Gp) : (cutF cs gs).map (fun c => c.1) = slk (nzP cs gs) (spOf cs gs) (rCro cs gs) (es0 cs gs) := by
  simp [cutF, slk, ZS0, PS0, Function.comp_def]
theorem cutF_sgn {cs : List Int} {gs : List Gp} {j : Nat} (hj : j < gs.length) : (cutF cs gs).map (fun c => c.2.getD j 0) = sgn (nzP cs gs) (rCro cs gs) (routeOf cs gs gs[j]) := by
  simp [cutF, sgn, Function.comp_def, List.getElem?_eq_getElem hj]
theorem cutF_len {cs : List Int} {gs : List Gp} {c : Int × List Int} (h : c ∈ cutF cs gs) : c.2.length = gs.length := by
  unfold cutF at h
  rcases List.mem_append.mp h with h | h
  · rcases List.mem_append.mp h with h | h
    · simp at h; subst h; simp
    · obtain ⟨p, _, rfl⟩ := List.mem_map.mp h; simp
  · obtain ⟨s, _, rfl⟩ := List.mem_map.mp h; simp
/-! lists in a list -/
def QV (X : Addr → Prop) (H : Hp) (v : V) (ns : List Int) : Prop := ∃ q, v = .ref q ∧ ¬ X q ∧ H q = some (.lst (ns.map V.int))
theorem QV.lx {X : Addr → Prop} {H H' : Hp} {v : V} {ns : List Int} (h : QV X H v ns) (l : LX X H H') : QV X H' v ns := by
  obtain ⟨q, e, h1, h2⟩ := h; exact ⟨q, e, h1, l.ls _ _ h2 h1⟩
theorem QV.rows {X : Addr → Prop} {H : Hp} {vs : List V} {nss : List (List Int)} (h : Rl (QV X H) vs nss) : ∃ rows : List Addr, vs = rows.map V.ref ∧ rows.length = nss.length ∧ ∀ (k : Nat) (q : Addr) (ns : List Int), rows[k]? = some q → nss[k]? = some ns → H q = some (.lst (ns.map V.int)) := by
  let f : V → Addr := fun v => match v with | .ref a => a | _ => 0
  have hv : vs = (vs.map f).map V.ref := by
    apply List.ext_getElem
    · simp
    · intro k h1 h2
      obtain ⟨ns, _, q, e, _⟩ := h.at (List.getElem?_eq_getElem h1)
      simp only [List.getElem_map]
      rw [e]
  refine ⟨vs.map f, hv, by rw [List.length_map, h.1], fun k q ns h1 h2 => ?_⟩
  rw [List.getElem?_map] at h1
  obtain ⟨v, hv', e⟩ := Option.map_eq_some_iff.mp h1
  obtain ⟨q', e', _, h3⟩ := h.2 k v ns hv' h2
  subst e'
  have : q' = q := e
  subst this
  exact h3
end Pv
namespace Pv
open PySem PySem.Spec PyProof.Rows L2
abbrev sSs : Stmt := topS 21
theorem scSs : FnScope ["routes", "post", "route"] ["routes", "post"] (defScope sSs) := ⟨rfl, rfl, rfl, by decide +kernel, rfl, by decide +kernel, by decide +kernel⟩
abbrev sAs : Stmt := topS 22
theorem scAs : FnScope ["posts", "found", "post", "part"] ["posts"] (defScope sAs) := ⟨rfl, rfl, rfl, by decide +kernel, rfl, by decide +kernel, by decide +kernel⟩
abbrev sOr : Stmt := topS 24
theorem scOr : FnScope ["slacks", "signs", "count", "least", "most", "slack", "sign"] ["slacks", "signs", "count"] (defScope sOr) := ⟨rfl, rfl, rfl, by decide +kernel, rfl, by decide +kernel, by decide +kernel⟩
section
variable {P : Program} {w : World} {K : PySem.W.Frag} {mg : Str → Option Value} {base : Heap}
def spSs (K : PySem.W.Frag) : Sp := fun vs H Q _ => ∃ (a : Addr) (rvs : List V) (rs : List Rt) (p : Int), vs = [.ref a, .int p] ∧ H a = some (.lst rvs) ∧ RtAll K H rvs rs ∧ rs.length ≤ 10 ∧ ∀ H' q, Same H H' → H' q = some (.lst ((rs.map (stSg p)).map V.int)) → H q = none → Q (.ref q) H'
set_option maxHeartbeats 4000000 in
theorem ok_Ss {f : Addr} {fd : FuncData} (F : Fun K "starting_signs" "starting_signs" sSs f fd)
     :
    FnOk P w K mg base CX0 1 f fd ["routes", "post"] (spSs K) := by
  refine F.ok scSs (fun vs H Q E h => ?_) (fun cdv A outer s H vs Q E hr h => ?_)
  · obtain ⟨a, rvs, rs, p, rfl, _⟩ := h; rfl
  · obtain ⟨a, rvs, rs, p, rfl, hA, hR, l10, q⟩ := h
    refine ⟨_, pss_one (ps_ret (pe_lc (own := [("route", 2)]) (g := gName 2) (tt := tYes) (te := tIf (tAnd (tB (tNotN (tVar 2))) (tTest (tOp rEq (tOp (rIxT K) (tVar 2) (tC (.int 0))) (tVar 1)))) (tC (.int 1)) (tC (.int 0))) rfl scSs.nd (pi_list (pv 0)) (blkOk_by (N := ["routes", "post", "route"]) (sc := defScope sSs) (by decide +kernel)) (fun _ _ _ _ _ => pg_name (i := 2) scSs.nd rfl (.inl rfl)) (fun _ _ _ _ _ => pts_nil) (fun _ _ _ _ _ => pe_ifExp (PW.pt (pw_and (pt_cmp (pc_notN (pv 2))) (pw_and1 (pt_cmpR op_eq (pe_ix ix_tup (pv 2) (pe_int) (fun _ _ => rfl)) (pv 1) (nomark _))))) (pe_int) (pe_int)))), ?_⟩
    refine ⟨.ref a, rfl, a, rfl, ⟨_, SqL.of hA⟩, fun D nD => lc_it (walk_list (K := K) (a := a) (xs := rvs))
      (LcP H D rs (fun r => some (.int (stSg p r)))) (.start nD) (fun j H2 _ h => SqL.of (h.1 _ _ hA)) ?_ ?_⟩
    · rintro j v H2 H3 hlt hL ⟨rfl, hv⟩
      have hv : rvs[j]? = some v := hv
      obtain ⟨r, hr, hrt⟩ := RtAll.at hR hv
      have hj : j ≤ 1000000 := by have := hR.1; omega
      cases r with
      | none =>
        obtain rfl : v = .non := hrt
        exact ⟨rfl, .non, rfl, _, rfl, iteFF (by simp) (iteF (hL.yes nD (Same.refl _) hr rfl hj))⟩
      | some r =>
        obtain ⟨T, rfl, hT⟩ := hrt
        refine ⟨rfl, .ref T, rfl, _, rfl, iteTT (by simp) ⟨.ref T, rfl, T, _, 0, .int r.1, rfl, rfl, sqS hL.1 hT, atI_nat (j := 0) rfl, .int p, rfl, rfl, _, rfl, ?_⟩⟩
        by_cases h1 : r.1 = p
        · exact iteTT (by simp [h1]) (hL.yes nD (Same.refl _) hr (by simp [stSg, h1]) hj)
        · exact iteFF (by simp [h1]) (hL.yes nD (Same.refl _) hr (by simp [stSg, h1]) hj)
    rintro H2 hL
    have e2 := hL.done (Nat.le_of_eq hR.1.symm)
    have em : rs.filterMap (fun r => some (V.int (stSg p r))) = (rs.map (stSg p)).map V.int := by rw [fm_map, List.map_map]; rfl
    rw [em] at e2
    exact q _ D hL.1 e2 nD
def spAs (K : PySem.W.Frag) : Sp := fun vs H Q _ => ∃ (a : Addr) (ps : List Int), vs = [.ref a] ∧ H a = some (.lst (ps.map V.int)) ∧ ps.length ≤ 6 ∧ ∀ H' p vs, Same H H' → H' p = some (.lst vs) → Rl (TuV K H') vs (subsL ps) → vs.length ≤ 64 → (∀ s ∈ subsL ps, s.length ≤ 6) → H p = none → Q (.ref p) H'
set_option maxHeartbeats 4000000 in
theorem ok_As {f : Addr} {fd : FuncData} (F : Fun K "all_subsets" "all_subsets" sAs f fd)
     :
    FnOk P w K mg base CX0 1 f fd ["posts"] (spAs K) := by
  refine F.ok scAs (fun vs H Q E h => ?_) (fun cdv A outer s H vs Q E hr h => ?_)
  · obtain ⟨a, ps, rfl, _⟩ := h; rfl
  · obtain ⟨a, ps, rfl, hA, l6, q⟩ := h
    refine ⟨_, pss_cons (ps_set (i := 1) scAs.nd rfl (.inl rfl) (pe_lst (pa_cons (pe_tup (pa_nil)) pa_nil)))
      (pss_cons (ps_for PassesOwn.never rfl (pi_list (pv 0)) (pg_name (i := 2) scAs.nd rfl (.inr rfl))
        (pss_one (ps_set (i := 1) scAs.nd rfl (.inl rfl) (pe_op op_cat (pv 1) (pe_lc (own := [("part", 3)]) (g := gName 3) (tt := tYes) (te := tOp (rCatA K) (tVar 3) (tTup (tCons (tVar 2) tNil))) rfl scAs.nd (pi_list (pv 1)) (blkOk_by (N := ["posts", "found", "post", "part"]) (sc := defScope sAs) (by decide +kernel)) (fun _ _ _ _ _ => pg_name (i := 3) scAs.nd rfl (.inl rfl)) (fun _ _ _ _ _ => pts_nil) (fun _ _ _ _ _ => pe_op op_catA (pv 3) (pe_tup (pa_cons (pv 2) pa_nil))))))))
      (pss_one (ps_ret (pv 1)))), ?_⟩
    refine ⟨Nat.zero_le _, fun T0 nT0 => ⟨(show (1 : Nat) ≤ sizeLine by decide), fun Fo nFo => ?_⟩⟩
    have sF := (sameNew (o := .tup []) nT0).trans (sameNew (o := .lst [.ref T0]) nFo)
    refine ⟨.ref a, rfl, a, rfl, ⟨_, SqL.of (sF _ _ hA)⟩, for_it (walk_list (K := K) (a := a) (xs := ps.map V.int))
      (fun j σ H3 => ∃ (Fj : Addr) (y2 : Option V) (vs : List V), σ = [some (.ref a), some (.ref Fj), y2, none] ∧ Same H H3 ∧ H3 Fj = some (.lst vs) ∧ Rl (TuV K H3) vs (subsL (ps.take j)) ∧ vs.length ≤ 2 ^ j ∧ (∀ s ∈ subsL (ps.take j), s.length ≤ j) ∧ H Fj = none)
      ⟨Fo, none, [.ref T0], rfl, sF, upd_same, ⟨rfl, ?_⟩, by simp, fun s hs => (by simp [subsL] at hs; subst hs; simp), freeOf nFo⟩ (fun j σ H3 _ h => by obtain ⟨_, _, _, _, s3, _⟩ := h; exact SqL.of (s3 _ _ hA)) ?_ ?_⟩
    · intro j v r h1 h2
      cases j with
      | zero => simp [subsL] at h1 h2; subst h1; subst h2; exact ⟨T0, rfl, SqT.of (upNew nFo upd_same)⟩
      | succ j => simp at h1
    · rintro j v σ H3 H4 hlt ⟨Fj, y2, vs, rfl, s3, e3, hv3, l3, b3, fF⟩ ⟨rfl, hv⟩
      have hv : (ps.map V.int)[j]? = some v := hv
      rw [List.getElem?_map] at hv
      obtain ⟨p, hp, rfl⟩ := Option.map_eq_some_iff.mp hv
      rw [List.length_map] at hlt
      have l3' : vs.length ≤ 64 := Nat.le_trans l3 (Nat.le_trans (Nat.pow_le_pow_right (by decide) (show j ≤ 6 by omega)) (by decide))
      refine ⟨.ref Fj, rfl, .ref Fj, rfl, Fj, rfl, ⟨_, SqL.of e3⟩, fun D nD => lc_it (walk_list (K := K) (a := Fj) (xs := vs))
        (LcR (TuV K) H4 D (subsL (ps.take j)) (fun s => some (s ++ [p]))) (.start nD) (fun k H _ h => SqL.of (h.1 _ _ e3)) ?_ ?_⟩
      · rintro k v H5 H6 hk hL ⟨rfl, hv⟩
        have hv : vs[k]? = some v := hv
        obtain ⟨s', hs', Tn, rfl, hTn⟩ := hv3.at hv
        have hsl := b3 s' (List.mem_of_getElem? hs')
        refine ⟨rfl, .ref Tn, rfl, .int p, rfl, (show (1 : Nat) ≤ sizeLine by decide), fun N nN => cat_eq (sqS (hL.1.trans (sameNew nN)) hTn) (SqT.of upd_same) (by rw [List.length_map]; exact small6 (by simp; omega)) (fun H9 pp s9 hpp => ?_)⟩
        exact hL.yes (fun _ _ _ _ tk h => h.tk tk) nD ((sameNew nN).trans s9) hs' rfl ⟨pp, rfl, by rw [List.map_append]; exact hpp⟩ (by omega)
      rintro H5 hL
      obtain ⟨ws, e5, hw5⟩ := hL.done (Nat.le_of_eq hv3.1.symm)
      have em : (subsL (ps.take j)).filterMap (fun s => some (s ++ [p])) = (subsL (ps.take j)).map (fun s => s ++ [p]) := by
        generalize subsL (ps.take j) = l
        induction l with
        | nil => rfl
        | cons x l ih => simp [ih]
      rw [em] at hw5
      have lw : ws.length = vs.length := by rw [hw5.1, List.length_map, hv3.1]
      refine ⟨Fj, D, _, _, rfl, rfl, hL.1 _ _ e3, e5, small6 (by omega), fun N nN => ?_⟩
      have sN := sameNew (o := .lst (vs ++ ws)) nN
      have hsub : subsL (ps.take (j + 1)) = subsL (ps.take j) ++ (subsL (ps.take j)).map (fun s => s ++ [p]) := by rw [take_snoc hp, subsL_snoc]
      refine ⟨N, _, vs ++ ws, rfl, (s3.trans hL.1).trans sN, upd_same, ?_, by rw [List.length_append, Nat.pow_succ]; omega, ?_, ?_⟩
      · rw [hsub]
        exact (hv3.mono fun v r h => h.tk (.of (hL.1.trans sN))).app (hw5.mono fun v r h => h.tk (.of sN))
      · intro s' hs'
        rw [hsub] at hs'
        rcases List.mem_append.mp hs' with h | h
        · have := b3 s' h; omega
        · obtain ⟨t, ht, rfl⟩ := List.mem_map.mp h
          have := b3 t ht
          simp; omega
      · cases e : H N with
        | none => rfl
        | some o => have := (s3.trans hL.1) _ _ e; rw [nN] at this; cases this
    · rintro σ H3 ⟨Fj, y2, vs, rfl, s3, e3, hv3, l3, b3, fF⟩
      rw [List.length_map, List.take_length] at hv3 b3
      rw [List.length_map] at l3
      have l3' : vs.length ≤ 64 := Nat.le_trans l3 (Nat.le_trans (Nat.pow_le_pow_right (by decide) l6) (by decide))
      exact ⟨_, rfl, q _ Fj vs s3 e3 hv3 l3' (fun s hs => Nat.le_trans (b3 s hs) l6) fF⟩
def spOr (K : PySem.W.Frag) : Sp := fun vs H Q _ => ∃ (sl sn : Addr) (sls sgs : List Int) (c : Int), vs = [.ref sl, .ref sn, .int c] ∧ H sl = some (.lst (sls.map V.int)) ∧ SqT K H sn (sgs.map V.int) ∧ sls.length ≤ 999 ∧ ∀ (H' : Hp) (T : Addr) (a b : Int), IsMax a (0 :: lows sls sgs c) → IsMin b (c :: highs sls sgs) → Same H H' → H' T = some (.tup [.int a, .int b]) → Q (.ref T) H'
set_option maxHeartbeats 4000000 in
theorem ok_Or {f : Addr} {fd : FuncData} (F : Fun K "open_range" "open_range" sOr f fd)
    (m_zip : mg "zip" = none) (m_max : mg "max" = none) (m_min : mg "min" = none) :
    FnOk P w K mg base CX0 1 f fd ["slacks", "signs", "count"] (spOr K) := by
  refine F.ok scOr (fun vs H Q E h => ?_) (fun cdv A outer s H vs Q E hr h => ?_)
  · obtain ⟨sl, sn, sls, sgs, c, rfl, _⟩ := h; rfl
  · obtain ⟨sl, sn, sls, sgs, c, rfl, hS, hG, hl, q⟩ := h
    refine ⟨_, pss_cons (ps_set (i := 3) scOr.nd rfl (.inl rfl) (pe_callB (cr_max rfl) (by rfl) m_max (by decide +kernel) (pa_cons (pe_op op_cat (pe_lst (pa_cons (pe_int) pa_nil)) (pe_lc (own := [("slack", 5), ("sign", 6)]) (g := gTup K 2 (gCons (gName 5) (gCons (gName 6) gNil))) (tt := tTest (tOp (rI0 fun i j => .bl (decide (i < j))) (tVar 6) (tC (.int 0)))) (te := tOp (rI0 fun i j => .int (i - j)) (tVar 2) (tVar 5)) rfl scOr.nd (pi_zipM (by rfl) m_zip (pa_cons (pv 0) (pa_cons (pv 1) pa_nil))) (blkOk_by (N := ["slacks", "signs", "count", "least", "most", "slack", "sign"]) (sc := defScope sOr) (by decide +kernel)) (fun _ _ _ _ _ => pg_tup rfl (pgs_cons (pg_name (i := 5) scOr.nd rfl (.inl rfl)) (pgs_cons (pg_name (i := 6) scOr.nd rfl (.inl rfl)) pgs_nil))) (fun _ _ _ _ _ => pts_one (pt_cmpR op_lt (pv 6) (pe_int) (nomark _))) (fun _ _ _ _ _ => pe_op op_sub (pv 2) (pv 5)))) pa_nil)))
      (pss_cons (ps_set (i := 4) scOr.nd rfl (.inl rfl) (pe_callB (cr_min rfl) (by rfl) m_min (by decide +kernel) (pa_cons (pe_op op_cat (pe_lst (pa_cons (pv 2) pa_nil)) (pe_lc (own := [("slack", 5), ("sign", 6)]) (g := gTup K 2 (gCons (gName 5) (gCons (gName 6) gNil))) (tt := tTest (tOp (rI0 fun i j => .bl (decide (j < i))) (tVar 6) (tC (.int 0)))) (te := tVar 5) rfl scOr.nd (pi_zipM (by rfl) m_zip (pa_cons (pv 0) (pa_cons (pv 1) pa_nil))) (blkOk_by (N := ["slacks", "signs", "count", "least", "most", "slack", "sign"]) (sc := defScope sOr) (by decide +kernel)) (fun _ _ _ _ _ => pg_tup rfl (pgs_cons (pg_name (i := 5) scOr.nd rfl (.inl rfl)) (pgs_cons (pg_name (i := 6) scOr.nd rfl (.inl rfl)) pgs_nil))) (fun _ _ _ _ _ => pts_one (pt_cmpR op_gt (pv 6) (pe_int) (nomark _))) (fun _ _ _ _ _ => pv 5))) pa_nil)))
      (pss_one (ps_ret (pe_tup (pa_cons (pv 3) (pa_cons (pv 4) pa_nil)))))), ?_⟩
    refine ⟨(show (1 : Nat) ≤ sizeLine by decide), fun Z0 nZ0 => ?_⟩
    have s0 := sameNew (o := .lst [.int 0]) nZ0
    refine ⟨.ref sl, rfl, .ref sn, rfl, sl, sn, _, _, rfl, SqL.of (s0 _ _ hS), sqS s0 hG, fun D nD => lc_it (walk_zipM (K := K) (a := sl) (b := sn) (xs := sls.map V.int) (ys := sgs.map V.int) rfl)
      (LcP _ D (sls.zip sgs) (fun z => if decide (z.2 < 0) = true then some (.int (c - z.1)) else none)) (.start nD) (fun j H2 _ h => ⟨SqL.of ((s0.trans h.1) _ _ hS), sqS (s0.trans h.1) hG⟩) ?_ ?_⟩
    · rintro j v H2 H3 hlt hL ⟨T, x, y, rfl, nT, rfl, ex, ey⟩
      rw [List.length_map, List.length_map] at hlt
      have hj1 : j < sls.length := by omega
      have hj2 : j < sgs.length := by omega
      have ex : (sls.map V.int)[j]? = some x := ex
      have ey : (sgs.map V.int)[j]? = some y := ey
      rw [atS hj1] at ex
      rw [atS hj2] at ey
      cases ex
      cases ey
      have hz : (sls.zip sgs)[j]? = some (sls[j], sgs[j]) := by rw [List.getElem?_zip_eq_some]; exact ⟨List.getElem?_eq_getElem hj1, List.getElem?_eq_getElem hj2⟩
      refine ⟨T, _, rfl, SqT.of upd_same, rfl, _, _, rfl, _, _, rfl, rfl, rfl, .int sgs[j], rfl, _, _, rfl, rfl, _, rfl, ite2 (fun h1 => ?_) (fun h1 => ?_)⟩
      · exact ⟨.int c, rfl, .int sls[j], rfl, _, _, rfl, rfl, hL.yes nD (sameNew nT) hz (if_pos h1) (by omega)⟩
      · exact hL.no (sameNew nT) hz (if_neg h1)
    rintro H2 hL
    have e2 := hL.done (by rw [List.length_zip, List.length_map, List.length_map]; exact Nat.le_refl _)
    have em : (sls.zip sgs).filterMap (fun z => if decide (z.2 < 0) = true then some (V.int (c - z.1)) else none) = (lows sls sgs c).map V.int := by rw [fm_filter]; unfold lows; rw [List.map_map]; rfl
    rw [em] at e2
    have s02 := s0.trans hL.1
    have hll : (lows sls sgs c).length ≤ 1000 := by unfold lows; rw [List.length_map]; exact Nat.le_trans (List.length_filter_le _ _) (by rw [List.length_zip]; omega)
    refine ⟨Z0, D, [.int 0], _, rfl, rfl, hL.1 _ _ upd_same, e2, (by rw [List.length_map]; exact small6 (by simp; omega)), fun C1 nC1 => ?_⟩
    have sC := sameNew (o := .lst ([V.int 0] ++ (lows sls sgs c).map V.int)) nC1
    refine ⟨C1, 0 :: lows sls sgs c, rfl, SqL.of upd_same, by simp, fun a ha1 ha2 => ?_⟩
    have s3 := s02.trans sC
    generalize upd H2 C1 (.lst ([V.int 0] ++ (lows sls sgs c).map V.int)) = H3 at s3
    refine ⟨.int c, rfl, (show (1 : Nat) ≤ sizeLine by decide), fun Z1 nZ1 => ?_⟩
    have s4 := s3.trans (sameNew (o := .lst [.int c]) nZ1)
    refine ⟨.ref sl, rfl, .ref sn, rfl, sl, sn, _, _, rfl, SqL.of (s4 _ _ hS), sqS s4 hG, fun D2 nD2 => lc_it (walk_zipM (K := K) (a := sl) (b := sn) (xs := sls.map V.int) (ys := sgs.map V.int) rfl)
      (LcP _ D2 (sls.zip sgs) (fun z => if decide (0 < z.2) = true then some (.int z.1) else none)) (.start nD2) (fun j H2 _ h => ⟨SqL.of ((s4.trans h.1) _ _ hS), sqS (s4.trans h.1) hG⟩) ?_ ?_⟩
    · rintro j v H2 H3 hlt hL ⟨T, x, y, rfl, nT, rfl, ex, ey⟩
      rw [List.length_map, List.length_map] at hlt
      have hj1 : j < sls.length := by omega
      have hj2 : j < sgs.length := by omega
      have ex : (sls.map V.int)[j]? = some x := ex
      have ey : (sgs.map V.int)[j]? = some y := ey
      rw [atS hj1] at ex
      rw [atS hj2] at ey
      cases ex
      cases ey
      have hz : (sls.zip sgs)[j]? = some (sls[j], sgs[j]) := by rw [List.getElem?_zip_eq_some]; exact ⟨List.getElem?_eq_getElem hj1, List.getElem?_eq_getElem hj2⟩
      refine ⟨T, _, rfl, SqT.of upd_same, rfl, _, _, rfl, _, _, rfl, rfl, rfl, .int sgs[j], rfl, _, _, rfl, rfl, _, rfl, ite2 (fun h1 => ?_) (fun h1 => ?_)⟩
      · exact ⟨.int sls[j], rfl, hL.yes nD2 (sameNew nT) hz (if_pos h1) (by omega)⟩
      · exact hL.no (sameNew nT) hz (if_neg h1)
    rintro H5 hL5
    have e5 := hL5.done (by rw [List.length_zip, List.length_map, List.length_map]; exact Nat.le_refl _)
    have em5 : (sls.zip sgs).filterMap (fun z => if decide (0 < z.2) = true then some (V.int z.1) else none) = (highs sls sgs).map V.int := by rw [fm_filter]; unfold highs; rw [List.map_map]; rfl
    rw [em5] at e5
    have hlh : (highs sls sgs).length ≤ 1000 := by unfold highs; rw [List.length_map]; exact Nat.le_trans (List.length_filter_le _ _) (by rw [List.length_zip]; omega)
    refine ⟨Z1, D2, [.int c], _, rfl, rfl, hL5.1 _ _ upd_same, e5, (by rw [List.length_map]; exact small6 (by simp; omega)), fun C2 nC2 => ?_⟩
    have sC2 := sameNew (o := .lst ([V.int c] ++ (highs sls sgs).map V.int)) nC2
    refine ⟨C2, c :: highs sls sgs, rfl, SqL.of upd_same, by simp, fun b hb1 hb2 => ?_⟩
    have s6 := (s4.trans hL5.1).trans sC2
    generalize upd H5 C2 (.lst ([V.int c] ++ (highs sls sgs).map V.int)) = H6 at s6
    refine ⟨.int a, rfl, .int b, rfl, (show (2 : Nat) ≤ sizeLine by decide), fun T nT => ?_⟩
    exact q _ T a b ⟨ha1, ha2⟩ ⟨hb1, hb2⟩ (s6.trans (sameNew nT)) upd_same
end
end Pv
namespace Pv
open PySem PySem.Spec PyProof.Rows L2
abbrev sSc : Stmt := topS 23
theorem scSc : FnScope ["instance", "spare", "routes", "inside", "signs", "slack", "crowded", "route", "post", "posts", "count", "sign"] ["instance", "spare", "routes", "inside"] (defScope sSc) := ⟨rfl, rfl, rfl, by decide +kernel, rfl, by decide +kernel, by decide +kernel⟩
section
variable {P : Program} {w : World} {K : PySem.W.Frag} {mg : Str → Option Value} {base : Heap}
def spSc (K : PySem.W.Frag) (C : Addr) : Sp := fun vs H Q E => ∃ (i sp ro ins : Addr) (cs : List Int) (gs : List Gp) (rvs : List V) (ss : List Int), vs = [.ref i, .ref sp, .ref ro, .ref ins] ∧ Dp K H (.ref i) (dInst cs gs) ∧ InsOk cs gs ∧ H sp = some (.lst ((spareL cs gs).map V.int)) ∧ H ro = some (.lst rvs) ∧ RtAll K H rvs (gs.map (routeOf cs gs)) ∧ SqT K H ins (ss.map V.int) ∧ ss ∈ subsL (nzP cs gs) ∧ ss.length ≤ 6 ∧
  (0 ≤ FS (nzP cs gs) (spOf cs gs) (mem ss) (es0 cs gs) → ∀ H' T q, Same H H' → H' T = some (.tup [.int (FS (nzP cs gs) (spOf cs gs) (mem ss) (es0 cs gs)), .ref q]) → H' q = some (.lst (((gs.map (routeOf cs gs)).map (sg (mem ss))).map V.int)) → H q = none → Q (.ref T) H') ∧
  (FS (nzP cs gs) (spOf cs gs) (mem ss) (es0 cs gs) < 0 → ∀ H' d ca ra, Same H H' → H' d = none → TuV K H' (.ref ca) (ss.filter fun p => decide (spOf cs gs p < 0)) → TuV K H' (.ref ra) (ss.filter fun p => decide (0 < spOf cs gs p)) → E (.ref C) (some d) (upd H' d (.xd [("reserves", .ref ra), ("crowded", .ref ca)])))
end
end Pv
namespace Pv
open PySem PySem.Spec PyProof.Rows L2
abbrev sFc : Stmt := topS 20
theorem scFc : FnScope ["instance", "routes", "spare", "cuts", "inside", "rows", "capacity", "demand", "route", "post", "left", "slack", "signs"] ["instance"] (defScope sFc) := ⟨rfl, rfl, rfl, by decide +kernel, rfl, by decide +kernel, by decide +kernel⟩
section
variable {P : Program} {w : World} {K : PySem.W.Frag} {mg : Str → Option Value} {base : Heap}
def spFc (K : PySem.W.Frag) (C : Addr) : Sp := fun vs H Q E => ∃ (i : Addr) (cs : List Int) (gs : List Gp), vs = [.ref i] ∧ Dp K H (.ref i) (dInst cs gs) ∧ InsOk cs gs ∧
  (FeasI cs gs (es0 cs gs) → ∀ H' T sl sn ts, Same H H' → SqT K H' T [.ref sl, .ref sn] → H' sl = some (.lst ((slk (nzP cs gs) (spOf cs gs) (rCro cs gs) (es0 cs gs)).map V.int)) → H' sn = some (.lst ts) → Rl (TuV K H') ts (gs.map (fun g => sgn (nzP cs gs) (rCro cs gs) (routeOf cs gs g))) → Q (.ref T) H') ∧
  (∀ ss ∈ subsL (nzP cs gs), FS (nzP cs gs) (spOf cs gs) (mem ss) (es0 cs gs) < 0 → ∀ H' d ca ra, Same H H' → H' d = none → TuV K H' (.ref ca) (ss.filter fun p => decide (spOf cs gs p < 0)) → TuV K H' (.ref ra) (ss.filter fun p => decide (0 < spOf cs gs p)) → E (.ref C) (some d) (upd H' d (.xd [("reserves", .ref ra), ("crowded", .ref ca)])))
end
end Pv
namespace Pv
open PySem PySem.Spec PyProof.Rows L2
abbrev sIg : Stmt := topS 9
theorem scIg : FnScope ["instance", "value"] ["instance", "value"] (defScope sIg) := ⟨rfl, rfl, rfl, by decide +kernel, rfl, by decide +kernel, by decide +kernel⟩
abbrev sRr : Stmt := topS 26
theorem scRr : FnScope ["instance", "group", "slacks", "signs"] ["instance", "group"] (defScope sRr) := ⟨rfl, rfl, rfl, by decide +kernel, rfl, by decide +kernel, by decide +kernel⟩
theorem subs_len (ps : List Int) : (subsL ps).length = 2 ^ ps.length := by
  have : ∀ l : List Int, (subsL l.reverse).length = 2 ^ l.length := by
    intro l
    induction l with
    | nil => rfl
    | cons x l ih => rw [List.reverse_cons, subsL_snoc, List.length_append, List.length_map, ih, List.length_cons, Nat.pow_succ]; omega
  have := this ps.reverse
  rwa [List.reverse_reverse, List.length_reverse] at this
theorem nz_len (cs : List Int) (gs : List Gp) : (nzP cs gs).length ≤ cs.length := by
  unfold nzP
  exact Nat.le_trans (List.length_filter_le _ _) (by rw [List.length_map, List.length_range]; exact Nat.le_refl _)
theorem slk_len {cs : List Int} {gs : List Gp} (ok : InsOk cs gs) {es : List Ed} : (slk (nzP cs gs) (spOf cs gs) (rCro cs gs) es).length ≤ 999 := by
  unfold slk
  rw [List.length_cons, List.length_append, List.length_map, List.length_map, subs_len]
  have h1 : (rCro cs gs).length ≤ cs.length := by unfold rCro; exact sel_len _ _ _
  have h2 : 2 ^ (nzP cs gs).length ≤ 2 ^ 6 := Nat.pow_le_pow_right (by decide) (Nat.le_trans (nz_len cs gs) ok.c6)
  have := ok.c6
  omega
section
variable {P : Program} {w : World} {K : PySem.W.Frag} {mg : Str → Option Value} {base : Heap}
def spIg (K : PySem.W.Frag) : Sp := fun vs H Q _ => ∃ (st r i : Addr) (v : V) (cs : List Int) (gs : List Gp) (d : PyData), vs = [.ref i, v] ∧ Dp K H (.ref i) (dInst cs gs) ∧ Dq K st r H v d ∧ Q (.bl (withinD 0 ((gs.length : Nat) - 1 : Int) d)) H
set_option maxHeartbeats 2000000 in
theorem ok_Ig {f fWi : Addr} {fd fdWi : FuncData} (F : Fun K "is_group" "is_group" sIg f fd)
    (FWi : Fun K "is_within" "is_within" sWithin fWi fdWi) (bWi : Binds K fdWi ["value", "least", "most"] []) (gWi : mg "is_within" = some (.ref fWi)) (GWi : FnOk P w K mg base CX0 2 fWi fdWi ["value", "least", "most"] (spWithin K))
    (m_len : mg "len" = none) :
    FnOk P w K mg base CX0 3 f fd ["instance", "value"] (spIg K) := by
  refine F.ok scIg (fun vs H Q E h => ?_) (fun cdv A outer s H vs Q E hr h => ?_)
  · obtain ⟨st, r, i, v, cs, gs, d, rfl, _⟩ := h; rfl
  · obtain ⟨st, r, i, v, cs, gs, d, rfl, hI, hv, q⟩ := h
    refine ⟨_, pss_one (ps_ret (pe_call GWi (hr.mono (by omega)) (by rfl) gWi FWi.kp bWi .nil pass0 (pa_cons (pv 1) (pa_cons (pe_int) (pa_cons (pe_op op_sub (pe_callB call_lenQ (by rfl) m_len PySem.boot_len (pa_cons (pe_ix ix_tup (pv 0) (pe_int) (fun _ _ => rfl)) pa_nil)) (pe_int)) pa_nil))))), ?_⟩
    obtain ⟨_, ca, ga, xs, e, hi, hc, hgt, hgs⟩ := inst_open hI
    cases e
    have lx := DpAll.len hgs
    rw [List.length_map] at lx
    refine ⟨v, rfl, .ref i, rfl, i, _, 1, .ref ga, rfl, rfl, hi, atI_nat (j := 1) rfl, ga, _, rfl, .inr hgt, _, _, rfl, rfl, st, r, v, d, _, _, rfl, hv, ?_⟩
    rw [lx]
    exact q
def spRr (K : PySem.W.Frag) (C : Addr) : Sp := fun vs H Q E => ∃ (i : Addr) (j : Nat) (cs : List Int) (gs : List Gp) (g : Gp), vs = [.ref i, .int j] ∧ Dp K H (.ref i) (dInst cs gs) ∧ InsOk cs gs ∧ gs[j]? = some g ∧
  (FeasI cs gs (es0 cs gs) → ∀ (H' : Hp) (T : Addr) (a b : Int), Same H H' → IsMax a (0 :: lows (slk (nzP cs gs) (spOf cs gs) (rCro cs gs) (es0 cs gs)) (sgn (nzP cs gs) (rCro cs gs) (routeOf cs gs g)) g.2) → IsMin b (g.2 :: highs (slk (nzP cs gs) (spOf cs gs) (rCro cs gs) (es0 cs gs)) (sgn (nzP cs gs) (rCro cs gs) (routeOf cs gs g))) → H' T = some (.tup [.int a, .int b]) → Q (.ref T) H') ∧
  (∀ ss ∈ subsL (nzP cs gs), FS (nzP cs gs) (spOf cs gs) (mem ss) (es0 cs gs) < 0 → ∀ H' d ca ra, Same H H' → H' d = none → TuV K H' (.ref ca) (ss.filter fun p => decide (spOf cs gs p < 0)) → TuV K H' (.ref ra) (ss.filter fun p => decide (0 < spOf cs gs p)) → E (.ref C) (some d) (upd H' d (.xd [("reserves", .ref ra), ("crowded", .ref ca)])))
end
end Pv
namespace Pv
open PySem PySem.Spec PyProof.Rows L2
/-! all vectors, by trying -/
def nOf (cs : List Int) (gs : List Gp) (g : Gp) : Nat := if (routeOf cs gs g).isSome = true then (1 + g.2).toNat else 1
def tupsTo (cs : List Int) (gs : List Gp) : Nat → List (List Int)
  | 0 => [[]]
  | j + 1 => (tupsTo cs gs j).flatMap fun xs => (List.range ((gs[j]?.map (nOf cs gs)).getD 0)).map fun (n : Nat) => xs ++ [(n : Int)]
def vecsL (cs : List Int) (gs : List Gp) : List (List Int) := (tupsTo cs gs gs.length).filter fun xs => isVecD cs gs (dI xs)
theorem tups_len {cs : List Int} {gs : List Gp} : ∀ {j : Nat} {xs : List Int}, xs ∈ tupsTo cs gs j → xs.length = j
  | 0, xs, h => by simp [tupsTo] at h; subst h; rfl
  | j + 1, xs, h => by
    simp only [tupsTo, List.mem_flatMap, List.mem_map] at h
    obtain ⟨ys, hy, n, _, rfl⟩ := h
    simp [tups_len hy]
theorem vecD_iff {cs : List Int} {gs : List Gp} {xs : List Int} : isVecD cs gs (dI xs) = true ↔ IsVec cs gs xs := by
  have hm : (xs.map PyData.int).map intAt = xs := by
    rw [List.map_map]
    have : intAt ∘ PyData.int = id := rfl
    rw [this]; simp
  unfold isVecD IsVec dI
  simp only [tupIt, hm, Bool.and_eq_true]
  unfold tupOfD
  rw [decide_eq_true_iff, List.all_eq_true, List.length_map]
  constructor
  · rintro ⟨h1, h2, h3⟩
    refine ⟨by omega, fun j g x hg hx => ?_, h3⟩
    have hq : (gs.zip (xs.map PyData.int))[j]? = some (g, .int x) := by rw [List.getElem?_zip_eq_some]; exact ⟨hg, by rw [List.getElem?_map, hx]; rfl⟩
    have := h2 _ (List.mem_of_getElem? hq)
    simpa [withinD] using this
  · rintro ⟨h1, h2, h3⟩
    refine ⟨by omega, fun z hz => ?_, h3⟩
    obtain ⟨j, hj, e⟩ := List.mem_iff_getElem.mp hz
    have e2 := List.getElem?_eq_getElem hj
    rw [e, List.getElem?_zip_eq_some] at e2
    obtain ⟨ha, hb⟩ := e2
    rw [List.getElem?_map] at hb
    obtain ⟨x, hx, hb⟩ := Option.map_eq_some_iff.mp hb
    have := h2 j z.1 x ha hx
    rw [← hb]
    simpa [withinD] using this
theorem vec_none {cs : List Int} {gs : List Gp} {xs : List Int} (hv : IsVec cs gs xs) {j : Nat} {g : Gp} {x : Int} (hg : gs[j]? = some g) (hx : xs[j]? = some x) (hr : routeOf cs gs g = none) : x = 0 := by
  have hj := (List.getElem?_eq_some_iff.mp hg).1
  have h := hv.2.2
  unfold meetsD at h
  rw [Bool.and_eq_true, Bool.and_eq_true, List.all_eq_true] at h
  have hz := zs_at (cs := cs) hv.1 hj
  have hg' : gs[j] = g := by rw [List.getElem?_eq_getElem hj] at hg; exact Option.some.inj hg
  have hx' : xs[j]'(by rw [hv.1]; exact hj) = x := by rw [List.getElem?_eq_getElem (by rw [hv.1]; exact hj)] at hx; exact Option.some.inj hx
  rw [hg', hx', hr] at hz
  have := h.1.1 _ (List.mem_of_getElem? hz)
  simpa [goodZ] using this
theorem vec_mem {cs : List Int} {gs : List Gp} {xs : List Int} : xs ∈ vecsL cs gs ↔ IsVec cs gs xs := by
  unfold vecsL
  rw [List.mem_filter, vecD_iff]
  refine ⟨fun h => h.2, fun hv => ⟨?_, hv⟩⟩
  have key : ∀ j, j ≤ gs.length → xs.take j ∈ tupsTo cs gs j := by
    intro j
    induction j with
    | zero => intro _; simp [tupsTo]
    | succ j ih =>
      intro h
      have hg : gs[j]? = some gs[j] := List.getElem?_eq_getElem (by omega)
      have hjx : j < xs.length := by rw [hv.1]; omega
      have hx : xs[j]? = some xs[j] := List.getElem?_eq_getElem hjx
      have hb := hv.2.1 j gs[j] xs[j] hg hx
      simp only [tupsTo, List.mem_flatMap, List.mem_map, hg, Option.map_some, Option.getD_some]
      refine ⟨xs.take j, ih (by omega), xs[j].toNat, List.mem_range.mpr ?_, ?_⟩
      · unfold nOf
        cases hr : routeOf cs gs gs[j] with
        | none => have := vec_none hv hg hx hr; simp; omega
        | some r => simp; omega
      · rw [take_snoc hx]
        congr 2
        omega
  have := key gs.length (Nat.le_refl _)
  rwa [List.take_of_length_le (by rw [hv.1]; exact Nat.le_refl _)] at this
end Pv
namespace Pv
open PySem PySem.Spec PyProof.Rows L2
abbrev sLa : Stmt := topS 38
theorem scLa : FnScope ["_law_instance_here", "_law_found_here", "_law_open_ones", "_law_group", "_law_posts", "_law_count", "_law_longer", "_law_numbers", "_law_row", "_law_number"] ["_law_instance_here"] (defScope sLa) := ⟨rfl, rfl, rfl, by decide +kernel, rfl, by decide +kernel, by decide +kernel⟩
section
variable {P : Program} {w : World} {K : PySem.W.Frag} {mg : Str → Option Value} {base : Heap}
def spLa (K : PySem.W.Frag) : Sp := fun vs H Q _ => ∃ (i : Addr) (cs : List Int) (gs : List Gp), vs = [.ref i] ∧ Dp K H (.ref i) (dInst cs gs) ∧ InsOk cs gs ∧ gs.length ≤ 4 ∧ (∀ g ∈ gs, g.2 ≤ 5) ∧
  ∀ H' p vs, Same H H' → H' p = some (.lst vs) → Rl (TuV K H') vs (vecsL cs gs) → vs.length ≤ 1296 → Q (.ref p) H'
set_option maxHeartbeats 8000000 in
theorem ok_La {f fLw fLv : Addr} {fd fdLw fdLv : FuncData} (F : Fun K "_law_all_vectors" "_law_all_vectors" sLa f fd)
    (FLw : Fun K "_law_rows" "_law_rows" sLw fLw fdLw) (bLw : Binds K fdLw ["_law_instance_here"] []) (gLw : mg "_law_rows" = some (.ref fLw)) (GLw : FnOk P w K mg base CX0 3 fLw fdLw ["_law_instance_here"] (spLw K))
    (FLv : Fun K "_law_is_vector" "_law_is_vector" sLv fLv fdLv) (bLv : Binds K fdLv ["_law_instance_here", "_law_value"] []) (gLv : mg "_law_is_vector" = some (.ref fLv)) (GLv : FnOk P w K mg base CX0 4 fLv fdLv ["_law_instance_here", "_law_value"] (spIv K))
    (m_enumerate : mg "enumerate" = none) (m_int : mg "int" = none) (m_range : mg "range" = none) :
    FnOk P w K mg base CX0 5 f fd ["_law_instance_here"] (spLa K) := by
  refine F.ok scLa (fun vs H Q E h => ?_) (fun cdv A outer s H vs Q E hr h => ?_)
  · obtain ⟨i, cs, gs, rfl, _⟩ := h; rfl
  · obtain ⟨i, cs, gs, rfl, hI, ok, h4, h3, q⟩ := h
    refine ⟨_, pss_cons (ps_set (i := 1) scLa.nd rfl (.inl rfl) (pe_lst (pa_cons (pe_tup (pa_nil)) pa_nil)))
      (pss_cons (ps_setLc (i := 2) (own := [("_law_row", 8)]) (g := gName 8) (tt := tYes) (te := tOp (rIxT K) (tVar 8) (tC (.int 0))) rfl scLa.nd rfl rfl (sw_true rfl rfl rfl (by decide +kernel)) (pi_list (pe_call GLw (hr.mono (by omega)) (by rfl) gLw FLw.kp bLw .nil pass0 (pa_cons (pv 0) pa_nil))) (blkOk_by (N := ["_law_instance_here", "_law_found_here", "_law_open_ones", "_law_group", "_law_posts", "_law_count", "_law_longer", "_law_numbers", "_law_row", "_law_number"]) (sc := defScope sLa) (by decide +kernel)) (fun _ _ _ _ _ => pg_name (i := 8) scLa.nd rfl (.inl rfl)) (fun _ _ _ _ _ => pts_nil) (fun _ _ _ _ _ => pe_ix ix_tup (pv 8) (pe_int) (fun _ _ => rfl)))
      (pss_cons (ps_for PassesOwn.never rfl (pi_enumT (by rfl) m_enumerate (pa_cons (pe_ix ix_tup (pv 0) (pe_int) (fun _ _ => rfl)) pa_nil)) (pg_tup rfl (pgs_cons (pg_name (i := 3) scLa.nd rfl (.inl rfl)) (pgs_cons (pg_tup rfl (pgs_cons (pg_name (i := 4) scLa.nd rfl (.inl rfl)) (pgs_cons (pg_name (i := 5) scLa.nd rfl (.inl rfl)) pgs_nil))) pgs_nil)))
        (pss_cons (ps_set (i := 6) scLa.nd rfl (.inl rfl) (pe_lst (pa_nil)))
        (pss_cons (ps_for PassesOwn.never rfl (pi_list (pv 1)) (pg_name (i := 7) scLa.nd rfl (.inr rfl))
          (pss_one (ps_expr (pe_bm PySem.F.plainAttrs_list PySem.F.slot_list_extend PySem.F.type_list_extend mt_extend (pv 6) (pa_cons (pe_lc (own := [("_law_number", 9)]) (g := gName 9) (tt := tYes) (te := tOp (rCatA K) (tVar 7) (tTup (tCons (tVar 9) tNil))) rfl scLa.nd (pi_range1 (by rfl) m_range (pa_cons (pe_op op_add (pe_int) (pe_op op_mul (pv 5) (pe_callTy call_int1 (by rfl) m_int (by decide +kernel) (pa_cons (pe_cmpR op_in_seq (pv 3) (pv 2) (by rfl)) pa_nil)))) pa_nil)) (blkOk_by (N := ["_law_instance_here", "_law_found_here", "_law_open_ones", "_law_group", "_law_posts", "_law_count", "_law_longer", "_law_numbers", "_law_row", "_law_number"]) (sc := defScope sLa) (by decide +kernel)) (fun _ _ _ _ _ => pg_name (i := 9) scLa.nd rfl (.inl rfl)) (fun _ _ _ _ _ => pts_nil) (fun _ _ _ _ _ => pe_op op_catA (pv 7) (pe_tup (pa_cons (pv 9) pa_nil)))) pa_nil)))))
        (pss_one (ps_set (i := 1) scLa.nd rfl (.inl rfl) (pv 6))))))
      (pss_one (ps_ret (pe_lc (own := [("_law_numbers", 7)]) (g := gName 7) (tt := tB (tCall (spIv K) [] E0 (tCons (tVar 0) (tCons (tVar 7) tNil)))) (te := tVar 7) rfl scLa.nd (pi_list (pv 1)) (blkOk_by (N := ["_law_instance_here", "_law_found_here", "_law_open_ones", "_law_group", "_law_posts", "_law_count", "_law_longer", "_law_numbers", "_law_row", "_law_number"]) (sc := defScope sLa) (by decide +kernel)) (fun _ _ _ _ _ => pg_name (i := 7) scLa.nd rfl (.inl rfl)) (fun _ _ _ _ _ => pts_one (pt_val (pe_call GLv (hr.mono (by omega)) (by rfl) gLv FLv.kp bLv .nil pass0 (pa_cons (pv 0) (pa_cons (pv 7) pa_nil))))) (fun _ _ _ _ _ => pv 7)))))), ?_⟩
    obtain ⟨_, ca, ga, xs, e, hi, hc, hgt, hgs⟩ := inst_open hI
    cases e
    have lx := DpAll.len hgs
    rw [List.length_map] at lx
    have h10 := ok.g10
    refine ⟨Nat.zero_le _, fun T0 nT0 => ⟨(show (1 : Nat) ≤ sizeLine by decide), fun Fo nFo => ?_⟩⟩
    have sF := (sameNew (o := .tup []) nT0).trans (sameNew (o := .lst [.ref T0]) nFo)
    have eFo : (upd (upd H T0 (.tup [])) Fo (.lst [.ref T0])) Fo = some (.lst [.ref T0]) := upd_same
    have hT0 : SqT K (upd (upd H T0 (.tup [])) Fo (.lst [.ref T0])) T0 [] := SqT.of (upNew nFo upd_same)
    generalize upd (upd H T0 (.tup [])) Fo (.lst [.ref T0]) = H0 at sF eFo hT0
    refine ⟨.ref i, rfl, i, cs, gs, rfl, (TupK.of sF).dp _ _ (to_dInst _ _) hI, ok, fun H1 Ro rv s1 eR hR fR => ⟨Ro, rfl, ⟨_, SqL.of eR⟩, fun D nD => lc_it (walk_list (K := K) (a := Ro) (xs := rv))
      (LcP H1 D (rowsTo cs gs gs.length) (fun r => some (.int (r.1 : Nat)))) (.start nD) (fun j H _ h => SqL.of (h.1 _ _ eR)) ?_ ?_⟩⟩
    · rintro m v H8 H9 hm hM ⟨rfl, hv⟩
      have hv : rv[m]? = some v := hv
      obtain ⟨r, hr, T3, rfl, hT3⟩ := hR.at hv
      have hrl := rowsTo_len cs gs gs.length
      have := hR.1
      exact ⟨rfl, .ref T3, rfl, T3, _, 0, _, rfl, rfl, sqS hM.1 hT3, atI_nat (j := 0) rfl, hM.yes nD (Same.refl _) hr rfl (by omega)⟩
    rintro H2 hM
    have eD := hM.done (Nat.le_of_eq hR.1.symm)
    rw [fm_mapI (fun (r : Rw) => (r.1 : Int))] at eD
    have s12 := s1.trans hM.1
    have s2 := sF.trans s12
    refine ⟨.ref i, rfl, i, _, 1, .ref ga, rfl, rfl, sqS s2 hi, atI_nat (j := 1) rfl, ga, _, rfl, sqS s2 hgt, for_it (walk_enumT (K := K) (a := ga) (xs := xs))
      (fun j σ H3 => ∃ (Fj : Addr) (y3 y4 y5 y6 y7 : Option V) (vs : List V), σ = [some (.ref i), some (.ref Fj), some (.ref D), y3, y4, y5, y6, y7, none, none] ∧ Same H2 H3 ∧ H3 Fj = some (.lst vs) ∧ Rl (TuV K H3) vs (tupsTo cs gs j) ∧ vs.length ≤ 6 ^ j)
      ⟨Fo, none, none, none, none, none, [.ref T0], rfl, Same.refl _, s12 _ _ eFo, ⟨rfl, ?_⟩, by simp⟩ (fun j σ H3 _ h => by obtain ⟨_, _, _, _, _, _, _, _, s3, _⟩ := h; exact sqS (s2.trans s3) hgt) ?_ ?_⟩
    · intro j v r h1 h2
      cases j with
      | zero => cases h1; cases h2; exact ⟨T0, rfl, sqS s12 hT0⟩
      | succ j => simp at h1
    · rintro j v σ H3 H4 hlt ⟨Fj, y3, y4, y5, y6, y7, vs, rfl, s3, e3, hv3, l3⟩ ⟨T, x, y, rfl, nT, rfl, ex, ey⟩
      have hj : j < gs.length := by omega
      have hg : gs[j]? = some gs[j] := List.getElem?_eq_getElem hj
      obtain ⟨gA, pA, hx, hG, hP⟩ := grp_at hgs hg
      cases ex
      have ey : xs[j]? = some y := ey
      rw [hx] at ey
      cases ey
      have hgc := h3 gs[j] (List.getElem_mem hj)
      have hgc1 := (ok.gp gs[j] (List.getElem_mem hj)).2.2.1
      have l3' : vs.length ≤ 1296 := Nat.le_trans l3 (Nat.le_trans (Nat.pow_le_pow_right (by decide) (show j ≤ 4 by omega)) (by decide))
      have sT := sameNew (o := .tup [.int (j : Nat), .ref gA]) nT
      refine ⟨T, _, rfl, SqT.of upd_same, rfl, _, _, rfl, _, _, rfl, gA, _, rfl, sqS (s2.trans (s3.trans sT)) hG, rfl, _, _, rfl, _, _, rfl, rfl, rfl, ?_⟩
      generalize upd H3 T (.tup [.int (j : Nat), .ref gA]) = H4 at sT
      refine ⟨Nat.zero_le _, fun Lo nLo => ?_⟩
      have e4 := sT _ _ e3
      have hv4 : Rl (TuV K H4) vs (tupsTo cs gs j) := hv3.mono fun v r h => h.tk (.of sT)
      have eD4 := (s3.trans sT) _ _ eD
      refine ⟨.ref Fj, rfl, Fj, rfl, ⟨_, SqL.of (upNew nLo e4)⟩, for_it (walk_list (K := K) (a := Fj) (xs := vs))
        (fun k σ H5 => ∃ (y7 : Option V) (ws : List V), σ = [some (.ref i), some (.ref Fj), some (.ref D), some (.int (j : Nat)), some (.ref pA), some (.int gs[j].2), some (.ref Lo), y7, none, none] ∧ Same H4 H5 ∧ H5 Lo = some (.lst ws) ∧ Rl (TuV K H5) ws (((tupsTo cs gs j).take k).flatMap fun xs => (List.range (nOf cs gs gs[j])).map fun (n : Nat) => xs ++ [(n : Int)]) ∧ ws.length ≤ 6 * k)
        ⟨_, [], rfl, sameNew nLo, upd_same, Rl.nil, by simp⟩ (fun k σ H5 _ h => by obtain ⟨_, _, _, s5, _⟩ := h; exact SqL.of (s5 _ _ e4)) ?_ ?_⟩
      · rintro k v σ H5 H6 hk ⟨y7, ws, rfl, s5, e5, hw5, l5⟩ ⟨rfl, hv⟩
        have hv : vs[k]? = some v := hv
        obtain ⟨ns, hns, Tn, rfl, hTn⟩ := hv4.at hv
        have hnl := tups_len (List.mem_of_getElem? hns)
        have hTn5 := sqS s5 hTn
        refine ⟨.ref Lo, rfl, .inl ⟨rfl, _, SqL.of e5⟩, .int gs[j].2, rfl, .int (j : Nat), rfl, .ref D, rfl, D, _, rfl, .inl (SqL.of (s5 _ _ eD4)), rfl, flat_ints _, .inr ⟨_, rfl, _, _, rfl, rfl, .inl ⟨by omega, by omega⟩, _, _, rfl, rfl, ?_⟩⟩
        have hop : inV (V.int (j : Nat)) (((rowsTo cs gs gs.length).map (fun (r : Rw) => (r.1 : Int))).map V.int) = (routeOf cs gs gs[j]).isSome := by rw [inV_ints]; exact rows_has hj hj
        have hm : ∃ m : Int, (1 : Int) + gs[j].2 * (if (if false = true then !inV (V.int (j : Nat)) (((rowsTo cs gs gs.length).map (fun (r : Rw) => (r.1 : Int))).map V.int) else inV (V.int (j : Nat)) (((rowsTo cs gs gs.length).map (fun (r : Rw) => (r.1 : Int))).map V.int)) = true then 1 else 0) = m ∧ m.toNat = nOf cs gs gs[j] ∧ 0 ≤ m ∧ m ≤ 6 := by
          refine ⟨_, rfl, ?_⟩
          rw [if_neg Bool.false_ne_true, hop]
          unfold nOf
          cases (routeOf cs gs gs[j]).isSome
          · simp
          · simp; omega
        obtain ⟨m, hme, hmt, hm0, hm6⟩ := hm
        refine ⟨m, by rw [← hme], by omega, by omega, fun D2 nD2 => lc_it (walk_range (lo := 0) (n := m.toNat)) (LcR (TuV K) H6 D2 (List.range m.toNat) (fun (n : Nat) => some (ns ++ [(n : Int)]))) (.start nD2) (fun _ _ _ _ => trivial) ?_ ?_⟩
        · rintro n v H7 H8 hn hL ⟨rfl, rfl⟩
          have e0 : (0 : Int) + (n : Nat) = ((n : Nat) : Int) := by omega
          dsimp only
          rw [e0]
          refine ⟨rfl, .ref Tn, rfl, .int (n : Nat), rfl, (show (1 : Nat) ≤ sizeLine by decide), fun N nN => cat_eq (sqS (hL.1.trans (sameNew nN)) hTn5) (SqT.of upd_same) ?_ (fun H9 p s9 hp => ?_)⟩
          · rw [List.length_map]; exact small6 (by simp; omega)
          · exact hL.yes (fun _ _ _ _ tk h => h.tk tk) nD2 ((sameNew nN).trans s9) (List.getElem?_range hn) rfl ⟨p, rfl, by rw [List.map_append]; exact hp⟩ (by omega)
        rintro H7 hL
        obtain ⟨zs, e7, hz7⟩ := hL.done (by simp)
        have emz : (List.range m.toNat).filterMap (fun (n : Nat) => some (ns ++ [(n : Int)])) = (List.range (nOf cs gs gs[j])).map (fun (n : Nat) => ns ++ [(n : Int)]) := by
          rw [hmt]
          generalize List.range (nOf cs gs gs[j]) = l
          induction l with
          | nil => rfl
          | cons x l ih => simp [ih]
        rw [emz] at hz7
        have eL7 := hL.1 _ _ e5
        have hzl : zs.length ≤ 6 := by
          rw [hz7.1, List.length_map, List.length_range, ← hmt]; omega
        have tkp : TupK H7 (upd H7 Lo (.lst (ws ++ zs))) := TupK.put eL7
        refine ⟨Lo, D2, ws, zs, rfl, rfl, eL7, e7, small6 (by omega), _, ws ++ zs, rfl, samePut (s5.trans hL.1) nLo, upd_same, ?_, by rw [List.length_append]; omega⟩
        rw [take_snoc hns, List.flatMap_append]
        simp only [List.flatMap_cons, List.flatMap_nil, List.append_nil]
        exact (hw5.mono fun v r h => h.tk ((TupK.of hL.1).trans tkp)).app (hz7.mono fun v r h => h.tk tkp)
      · rintro σ H5 ⟨y7, ws, rfl, s5, e5, hw5, l5⟩
        refine ⟨.ref Lo, rfl, Lo, _, _, _, _, _, ws, rfl, s3.trans (sT.trans s5), e5, ?_, by rw [Nat.pow_succ]; omega⟩
        rw [hv4.1, List.take_length] at hw5
        simp only [tupsTo, hg, Option.map_some, Option.getD_some]
        exact hw5
    · rintro σ H3 ⟨Fj, y3, y4, y5, y6, y7, vs, rfl, s3, e3, hv3, l3⟩
      rw [lx] at hv3 l3
      have l3' : vs.length ≤ 1296 := Nat.le_trans l3 (Nat.le_trans (Nat.pow_le_pow_right (by decide) h4) (by decide))
      have s03 := s2.trans s3
      refine ⟨.ref Fj, rfl, Fj, rfl, ⟨_, SqL.of e3⟩, fun D2 nD2 => lc_it (walk_list (K := K) (a := Fj) (xs := vs))
        (LcR (TuV K) H3 D2 (tupsTo cs gs gs.length) (fun ns => if isVecD cs gs (dI ns) = true then some ns else none)) (.start nD2) (fun j H _ h => SqL.of (h.1 _ _ e3)) ?_ ?_⟩
      · rintro k v H5 H6 hk hL ⟨rfl, hv⟩
        have hv : vs[k]? = some v := hv
        obtain ⟨ns, hns, Tn, rfl, hTn⟩ := hv3.at hv
        refine ⟨rfl, .ref i, rfl, .ref Tn, rfl, i, i, i, .ref Tn, cs, gs, dI ns, rfl, (TupK.of (s03.trans hL.1)).dp _ _ (to_dInst _ _) hI, ok, .of_dp (to_ints ns) (dI_sq (sqS hL.1 hTn)), fun H7 s7 => ⟨_, rfl, ite2 (fun h1 => ?_) (fun h1 => ?_)⟩⟩
        · exact ⟨_, rfl, hL.yes (fun _ _ _ _ tk h => h.tk tk) nD2 s7 hns (if_pos h1) ⟨Tn, rfl, sqS (hL.1.trans s7) hTn⟩ (by omega)⟩
        · exact hL.no (fun _ _ _ _ tk h => h.tk tk) s7 hns (if_neg h1)
      rintro H5 hL
      obtain ⟨zs, e5, hz5⟩ := hL.done (Nat.le_of_eq hv3.1.symm)
      have emv : (tupsTo cs gs gs.length).filterMap (fun ns => if isVecD cs gs (dI ns) = true then some ns else none) = vecsL cs gs := by
        unfold vecsL
        generalize tupsTo cs gs gs.length = l
        induction l with
        | nil => rfl
        | cons x l ih => by_cases hx : isVecD cs gs (dI x) = true <;> simp [hx, ih]
      rw [emv] at hz5
      refine q _ D2 zs (s03.trans hL.1) e5 hz5 ?_
      rw [hz5.1]
      unfold vecsL
      exact Nat.le_trans (List.length_filter_le _ _) (by rw [← hv3.1]; exact l3')
end
end Pv
namespace Pv
open PySem PySem.Spec PyProof.Rows L2
abbrev sLg : Stmt := topS 39
theorem scLg : FnScope ["_law_instance_here", "_law_crowd", "_law_room_here", "_law_excess", "_law_free", "_law_demand_here", "_law_value", "_law_allowed", "_law_posts", "_law_need", "_law_post", "_law_row"] ["_law_instance_here", "_law_crowd", "_law_room_here"] (defScope sLg) := ⟨rfl, rfl, rfl, by decide +kernel, rfl, by decide +kernel, by decide +kernel⟩
theorem nz_asc (cs : List Int) (gs : List Gp) : (nzP cs gs).Pairwise (· < ·) := by
  unfold nzP
  refine List.Pairwise.filter _ ?_
  rw [List.pairwise_map]
  exact List.Pairwise.imp (fun h => by omega) List.pairwise_lt_range
theorem two_sides {ss : List Int} {f : Int → Int} (h : ∀ p ∈ ss, f p ≠ 0) : (ss.map f).sum = ((ss.filter fun p => decide (f p < 0)).map f).sum + ((ss.filter fun p => decide (0 < f p)).map f).sum := by
  induction ss with
  | nil => rfl
  | cons p ss ih =>
    have hp := h p (by simp)
    have ih := ih fun p hp => h p (by simp [hp])
    by_cases h1 : f p < 0
    · rw [List.filter_cons_of_pos (by simpa using h1), List.filter_cons_of_neg (by simp; omega)]
      simp only [List.map_cons, List.sum_cons]; omega
    · rw [List.filter_cons_of_neg (by simpa using h1), List.filter_cons_of_pos (by simp; omega)]
      simp only [List.map_cons, List.sum_cons]; omega
theorem sum_neg {α : Type} (f : α → Int) : ∀ l : List α, (l.map (fun x => - f x)).sum = - (l.map f).sum
  | [] => by simp
  | x :: l => by simp only [List.map_cons, List.sum_cons, sum_neg f l]; omega
theorem short_sum {cs : List Int} {gs : List Gp} {ss : List Int} (ok : InsOk cs gs) (hss : ss ∈ subsL (nzP cs gs)) (hF : FS (nzP cs gs) (spOf cs gs) (mem ss) (es0 cs gs) < 0) :
    (((rowsTo cs gs gs.length).filter (fun r => inV (.int r.2.1) ((ss.filter fun p => decide (spOf cs gs p < 0)).map V.int) && !inV (oV r.2.2.1) ((ss.filter fun p => decide (0 < spOf cs gs p)).map V.int))).map (fun r => r.2.2.2)).sum < ((ss.filter fun p => decide (spOf cs gs p < 0)).map (fun p => - spOf cs gs p)).sum - ((ss.filter fun p => decide (0 < spOf cs gs p)).map (spOf cs gs)).sum := by
  have hnz : ∀ p ∈ ss, spOf cs gs p ≠ 0 := fun p hp => by
    rw [← subs_is (nz_nodup cs gs) hss] at hp
    exact (nz_mem.mp (List.mem_filter.mp hp).1).2
  rw [FS0 hss, two_sides hnz] at hF
  rw [sum_neg]
  have key : ∀ n, n ≤ gs.length → (((rowsTo cs gs n).filter (fun r => inV (.int r.2.1) ((ss.filter fun p => decide (spOf cs gs p < 0)).map V.int) && !inV (oV r.2.2.1) ((ss.filter fun p => decide (0 < spOf cs gs p)).map V.int))).map (fun r => r.2.2.2)).sum = (((gs.take n).filter (fun g => decide (sg (mem ss) (routeOf cs gs g) < 0))).map (fun g => g.2)).sum := by
    intro n
    induction n with
    | zero => intro _; rfl
    | succ n ih =>
      intro h
      have hg : gs[n]? = some gs[n] := List.getElem?_eq_getElem (by omega)
      rw [rowsTo_succ hg, take_snoc hg, List.filter_append, List.filter_append, List.map_append, List.map_append, List.sum_append, List.sum_append, ih (by omega)]
      congr 1
      unfold rowAt
      cases hr : routeOf cs gs gs[n] with
      | none => simp [sg, hr]
      | some r =>
        obtain ⟨h1, h2⟩ := route_wf ok (List.getElem_mem (by omega)) hr
        have h1 := (cro_mem.mp h1).2
        have e1 : inV (.int r.1) ((ss.filter fun p => decide (spOf cs gs p < 0)).map V.int) = mem ss r.1 := by
          rw [inV_ints]
          unfold mem
          rw [Bool.eq_iff_iff, List.contains_iff_mem, List.contains_iff_mem, List.mem_filter]
          exact ⟨fun h => h.1, fun h => ⟨h, by simpa using h1⟩⟩
        have e2 : inV (oV r.2) ((ss.filter fun p => decide (0 < spOf cs gs p)).map V.int) = inb (mem ss) r.2 := by
          cases hy : r.2 with
          | none => exact inV_opt [] _
          | some y =>
            show inV (.int y) _ = mem ss y
            rw [inV_ints]
            unfold mem
            rw [Bool.eq_iff_iff, List.contains_iff_mem, List.contains_iff_mem, List.mem_filter]
            exact ⟨fun h => h.1, fun h => ⟨h, by simpa using (h2 y hy).1⟩⟩
        have e3 : decide (sg (mem ss) (some r) < 0) = (mem ss r.1 && !inb (mem ss) r.2) := by
          have := sg_neg (mem ss) r
          cases h3 : mem ss r.1 <;> cases h4 : inb (mem ss) r.2 <;> simp [sg, h3, h4]
        simp only [Option.map_some, Option.toList_some]
        cases hb : (mem ss r.1 && !inb (mem ss) r.2) with
        | true =>
          rw [List.filter_cons_of_pos (by simp only; rw [e1, e2]; exact hb), List.filter_cons_of_pos (by rw [hr, e3]; exact hb)]
          rfl
        | false =>
          rw [List.filter_cons_of_neg (by simp only; rw [e1, e2, hb]; decide), List.filter_cons_of_neg (by rw [hr, e3, hb]; decide)]
          rfl
  have := key gs.length (Nat.le_refl _)
  rw [List.take_length] at this
  rw [this]
  omega
section
variable {P : Program} {w : World} {K : PySem.W.Frag} {mg : Str → Option Value} {base : Heap}
def spLg (K : PySem.W.Frag) : Sp := fun vs H Q _ => ∃ (i ca ra : Addr) (cs : List Int) (gs : List Gp) (ss : List Int), vs = [.ref i, .ref ca, .ref ra] ∧ Dp K H (.ref i) (dInst cs gs) ∧ InsOk cs gs ∧ ss ∈ subsL (nzP cs gs) ∧ FS (nzP cs gs) (spOf cs gs) (mem ss) (es0 cs gs) < 0 ∧ SqT K H ca ((ss.filter fun p => decide (spOf cs gs p < 0)).map V.int) ∧ SqT K H ra ((ss.filter fun p => decide (0 < spOf cs gs p)).map V.int) ∧ ∀ H', Same H H' → Q (.bl true) H'
end
end Pv
namespace Pv
open PySem PySem.Spec PyProof.Rows L2
section
variable {P : Program} {w : World} {K : PySem.W.Frag} {mg : Str → Option Value} {base : Heap}
set_option maxHeartbeats 2000000 in
theorem ok_LdH {f : Addr} {fd : FuncData} (F : Fun K "_law_demand" "_law_demand" sLd f fd)
    (m_len : mg "len" = none) :
    L2H.FnH P w K mg base CX0 1 f fd ["_law_instance_here"] (spLd K) := by
  refine okW F scLd (fun vs H Q E h => ?_) (fun cdv A outer s H vs Q E pE hs hcE hr h => ?_)
  · obtain ⟨i, cs, gs, rfl, _⟩ := h; rfl
  · obtain ⟨i, cs, gs, rfl, hI, ok, q⟩ := h
    have hu64 : (A.deeper (envOfC "_law_demand" (defScope sLd) s.heap.objs.size f cdv)).units + 64 < cLine := by have := hr.un; omega
    have hu0 : (A.deeper (envOfC "_law_demand" (defScope sLd) s.heap.objs.size f cdv)).units < cLine := by have := hr.un; omega
    refine ⟨_, pss_cons (ps_set (i := 1) scLd.nd rfl (.inl rfl) (pe_op op_rep (pe_lst (pa_cons (pe_int) pa_nil)) (pe_callB call_lenQ (by rfl) m_len PySem.boot_len (pa_cons (pe_ix ix_tup (pv 0) (pe_int) (fun _ _ => rfl)) pa_nil))))
      (pss_cons (ps_forW (passes_of rfl) hs (piW_tup (pe_ix ix_tup (pv 0) (pe_int) (fun _ _ => rfl))) (pg_tupW hs (pgs_cons (pg_name (i := 2) scLd.nd rfl (.inl rfl)) (pgs_cons (pg_name (i := 3) scLd.nd rfl (.inl rfl)) pgs_nil)))
        (pss_one (ps_if (pt_cmpR (op_neNilT hu0) (pv 2) (pe_tup (pa_nil)) (nomark _))
          (pss_one (ps_asg (pe_op op_add (pe_ix ix_list (pv 1) (pe_ix ix_tup (pv 2) (pe_int) (fun _ _ => rfl)) (fun _ _ => rfl)) (pv 3)) (pg_sub (pv 1) (pe_ix ix_tup (pv 2) (pe_int) (fun _ _ => rfl)) set_list))) pss_nil)))
      (pss_one (ps_ret (pv 1)))), ?_⟩
    obtain ⟨_, ca, ga, xs, e, hi, hc, hg, hgs⟩ := inst_open hI
    cases e
    have h6 := ok.c6
    refine ⟨by decide, fun p0 n0 => ⟨.ref i, rfl, i, _, 0, .ref ca, rfl, rfl, (TupK.new n0).sq hi, atI_nat (j := 0) rfl, ca, _, rfl, .inr ((TupK.new n0).sq hc), p0, _, _, rfl, rfl, upd_same, by omega, ?_, ?_, fun L nL => ?_⟩⟩
    · rw [List.length_map]; omega
    · rw [List.length_map]; show 1 * _ ≤ sizeLine; have := small (n := cs.length) (by omega); simp; omega
    have fL : H L = none := freeOf nL
    have s1 : Same H (upd (upd H p0 (.lst [.int 0])) L (.lst (List.replicate ((List.map V.int cs).length : Int).toNat [V.int 0]).flatten)) := samePut (sameNew n0) fL
    refine ⟨.ref i, rfl, i, _, 1, .ref ga, rfl, rfl, (TupK.of s1).sq hi, atI_nat (j := 1) rfl, ga, rfl, ⟨_, (TupK.of s1).sq hg⟩, for_it (walk_tup (K := K) (a := ga) (xs := xs))
      (fun i' σ H2 => ∃ y2 y3, σ = [some (.ref i), some (.ref L), y2, y3] ∧ Same H H2 ∧ H2 L = some (.lst ((demOf cs.length (gs.take i')).map V.int)))
      ⟨none, none, rfl, s1, ?_⟩ ?_ ?_ ?_⟩
    · rw [upd_same, List.length_map, Int.toNat_natCast, zeros_V]; rfl
    · rintro i' σ H2 _ ⟨y2, y3, rfl, s2, e2⟩
      exact (TupK.of s2).sq hg
    · rintro i' v σ H2 H3 hlt ⟨y2, y3, rfl, s2, e2⟩ ⟨rfl, hx⟩
      obtain ⟨d, hd, hxd⟩ := DpAll.at hgs hx
      rw [List.getElem?_map] at hd
      obtain ⟨g, hgi, rfl⟩ := Option.map_eq_some_iff.mp hd
      obtain ⟨gA, pA, rfl, hG, hP⟩ := grp_ref hxd
      have tk := TupK.of s2
      have hsn := demOf_snoc (n := cs.length) hgi
      have hgp := (ok.gp g (List.mem_of_getElem? hgi)).2.1
      have hdl := demOf_len cs.length (gs.take i')
      generalize hcur : demOf cs.length (gs.take i') = cur at e2 hsn hdl
      refine ⟨gA, _, rfl, tk.sq hG, rfl, _, _, rfl, _, _, rfl, rfl, ?_⟩
      refine ⟨.ref pA, rfl, Nat.zero_le _, fun Em nEm => ?_⟩
      have sE := sameNew (o := .tup []) nEm
      have tkE := tk.trans (TupK.of sE)
      have eE := sE _ _ e2
      refine ⟨pA, Em, _, rfl, rfl, tkE.sq hP, SqT.of upd_same, _, rfl, ?_⟩
      generalize upd H3 Em (.tup []) = H4 at sE tkE eE
      have sH := s2.trans sE
      cases hgg : g.1 with
      | nil =>
        refine iteF ⟨_, _, rfl, sH, ?_⟩
        rw [eE, hsn]
        unfold dAdd
        rw [hgg]
      | cons pp ps =>
        refine iteT ?_
        have hpr := hgp pp (by rw [hgg]; simp)
        obtain ⟨pn, rfl⟩ : ∃ pn : Nat, pp = pn := ⟨pp.toNat, by omega⟩
        have hpl : pn < cur.length := by omega
        have hP0 := tkE.sq hP
        have hcv : (cur.map V.int)[pn]? = some (.int cur[pn]) := by rw [List.getElem?_map, List.getElem?_eq_getElem hpl]; rfl
        have h0 : (g.1.map V.int)[0]? = some (.int (pn : Nat)) := by rw [hgg]; rfl
        refine ⟨.ref L, rfl, .ref pA, rfl, pA, _, 0, .int pn, rfl, rfl, hP0, atI_nat (j := 0) h0, L, _, _, .int cur[pn], rfl, rfl, SqL.of eE, atI_nat hcv, .int g.2, rfl, _, _, rfl, rfl, .ref L, rfl, .ref pA, rfl, pA, _, 0, .int pn, rfl, rfl, hP0, atI_nat (j := 0) h0, L, _, _, pn, rfl, rfl, eE, ixN_nat (by rw [List.length_map]; exact hpl), ?_⟩
        refine ⟨_, _, rfl, samePut sH fL, ?_⟩
        rw [upd_same, hsn]
        unfold dAdd
        rw [hgg]
        show _ = some (HO.lst ((addAt cur pn g.2).map V.int))
        unfold addAt
        rw [Int.toNat_natCast, List.getD_eq_getElem?_getD, List.getElem?_eq_getElem hpl, List.map_set]
        rfl
    · rintro σ H2 ⟨y2, y3, rfl, s2, e2⟩
      rw [DpAll.len hgs, List.length_map, List.take_length] at e2
      exact ⟨_, rfl, q _ L s2 e2 fL⟩
set_option maxHeartbeats 2000000 in
theorem ok_LrH {f fLd : Addr} {fd fdLd : FuncData} (F : Fun K "_law_reserve" "_law_reserve" sLr f fd)
    (FLd : Fun K "_law_demand" "_law_demand" sLd fLd fdLd) (bLd : Binds K fdLd ["_law_instance_here"] []) (gLd : mg "_law_demand" = some (.ref fLd)) (GLd : L2H.FnH P w K mg base CX0 1 fLd fdLd ["_law_instance_here"] (spLd K))
    (m_len : mg "len" = none) (m_range : mg "range" = none) :
    L2H.FnH P w K mg base CX0 2 f fd ["_law_instance_here", "_law_group"] (spRes K) := by
  refine okW F scLr (fun vs H Q E h => ?_) (fun cdv A outer s H vs Q E pE hs hcE hr h => ?_)
  · obtain ⟨i, gi, cs, gs, g, rfl, _⟩ := h; rfl
  · obtain ⟨i, gi, cs, gs, g, rfl, hI, ok, hg, q⟩ := h
    have hu64 : (A.deeper (envOfC "_law_reserve" (defScope sLr) s.heap.objs.size f cdv)).units + 64 < cLine := by have := hr.un; omega
    have hu0 : (A.deeper (envOfC "_law_reserve" (defScope sLr) s.heap.objs.size f cdv)).units < cLine := by have := hr.un; omega
    refine ⟨_, pss_cons (ps_asg (pe_tup (pa_cons (pe_ix ix_tup (pe_ix ix_tup (pe_ix ix_tup (pv 0) (pe_int) (fun _ _ => rfl)) (pv 1) (fun _ _ => rfl)) (pe_int) (fun _ _ => rfl)) (pa_cons (pe_callW GLd (hr.mono (by omega)) hcE (by rfl) gLd FLd.kp bLd (pa_cons (pv 0) pa_nil)) pa_nil))) (pg_tupW hs (pgs_cons (pg_name (i := 2) scLr.nd rfl (.inr rfl)) (pgs_cons (pg_name (i := 3) scLr.nd rfl (.inr rfl)) pgs_nil))))
      (pss_cons (ps_if (pt_cmpR (op_eqNilT hu0) (pv 2) (pe_tup (pa_nil)) (nomark _))
        (pss_one (ps_ret (pe_int))) pss_nil)
      (pss_one (ps_ret (pe_ix ix_list (pe_lcW (own := [("_law_k", 4)]) (g := gName 4) (tt := tOr (tTest (tOp rEq (tVar 4) (tCB (rLenQ K) (tCons (tVar 2) tNil)))) (tTest (tOp (rI0 fun i j => .bl (decide (i < j))) (tOp (rIxL K) (tVar 3) (tOp (rIxT K) (tVar 2) (tVar 4))) (tOp (rIxT K) (tOp (rIxT K) (tVar 0) (tC (.int 0))) (tOp (rIxT K) (tVar 2) (tVar 4)))))) (te := tVar 4) hs scLr.nd (piW_range2 (by rfl) m_range (pa_cons (pe_int) (pa_cons (pe_op op_add (pe_callB call_lenQ (by rfl) m_len PySem.boot_len (pa_cons (pv 2) pa_nil)) (pe_int)) pa_nil))) (blkOk_by (N := ["_law_instance_here", "_law_group", "_law_posts", "_law_demand_here", "_law_k"]) (sc := defScope sLr) (by decide +kernel)) (fun _ _ _ _ _ hs => pg_name (i := 4) scLr.nd rfl (.inl rfl)) (fun _ _ _ _ _ hs => pts_one (PW.pt (pw_or (pt_cmpR op_eq (pv 4) (pe_callB call_lenQ (by rfl) m_len PySem.boot_len (pa_cons (pv 2) pa_nil)) (nomark _)) (pw_or1 (pt_cmpR op_lt (pe_ix ix_list (pv 3) (pe_ix ix_tup (pv 2) (pv 4) (fun _ _ => rfl)) (fun _ _ => rfl)) (pe_ix ix_tup (pe_ix ix_tup (pv 0) (pe_int) (fun _ _ => rfl)) (pe_ix ix_tup (pv 2) (pv 4) (fun _ _ => rfl)) (fun _ _ => rfl)) (nomark _)))))) (fun _ _ _ _ _ hs => pv 4)) (pe_int) (fun _ _ => rfl))))), ?_⟩
    obtain ⟨_, ca, ga, xs, e, hi, hc, hgt, hgs⟩ := inst_open hI
    cases e
    obtain ⟨gA, pA, hx, hG, hP⟩ := grp_at hgs hg
    have hgl := (ok.gp g (List.mem_of_getElem? hg)).1
    have hgp := (ok.gp g (List.mem_of_getElem? hg)).2.1
    have h6 := ok.c6
    refine ⟨.ref i, rfl, i, _, 1, .ref ga, rfl, rfl, hi, atI_nat (j := 1) rfl, .int gi, rfl, ga, _, _, _, rfl, rfl, hgt, atI_nat hx, gA, _, 0, .ref pA, rfl, rfl, hG, atI_nat (j := 0) rfl, ?_⟩
    refine ⟨.ref i, rfl, i, cs, gs, rfl, hI, ok, fun H1 Dm s1 eD _ => ⟨(show (2 : Nat) ≤ sizeLine by decide), fun T nT => ⟨T, _, rfl, SqT.of upd_same, rfl, _, _, rfl, _, _, rfl, rfl, ?_⟩⟩⟩
    have s2 := s1.trans (sameNew (o := .tup [.ref pA, .ref Dm]) nT)
    have eD2 := sameNew (o := .tup [.ref pA, .ref Dm]) nT _ _ eD
    generalize upd H1 T (.tup [.ref pA, .ref Dm]) = H2 at s2 eD2
    refine ⟨.ref pA, rfl, Nat.zero_le _, fun Em nEm => ⟨pA, Em, _, rfl, rfl, sqS (s2.trans (sameNew nEm)) hP, SqT.of upd_same, _, rfl, ?_⟩⟩
    have s3 := s2.trans (sameNew (o := .tup []) nEm)
    have eD3 := sameNew (o := .tup []) nEm _ _ eD2
    generalize upd H2 Em (.tup []) = H3 at s3 eD3
    by_cases hne : g.1 = []
    · have hr : resOf g.1 (rCla cs gs) = 0 := by rw [hne]; rfl
      rw [hne]
      refine iteT ?_
      have := q _ s3
      rw [hr] at this
      exact this
    have hl1 : 1 ≤ g.1.length := by cases hgg : g.1 with
      | nil => exact absurd hgg hne
      | cons a b => simp
    refine iteFF (by rw [List.isEmpty_eq_false_iff]; simpa using hne) ?_
    have hP3 := sqS s3 hP
    have hdl := rDem_len cs gs
    refine ⟨.ref pA, rfl, pA, _, rfl, .inr hP3, _, _, rfl, rfl, 1, _, rfl, ⟨by omega, by omega, by omega, by rw [List.length_map]; omega⟩, fun D nD => lc_it (walk_range (lo := 1) (n := ((((List.map V.int g.1).length : Int) + 1) - 1).toNat))
      (LcP H3 D (List.range' 1 g.1.length) (fun k => if (k == g.1.length || isFree g.1 (rCla cs gs) k) = true then some (.int (k : Nat)) else none)) (.start nD) (fun _ _ _ _ => trivial) ?_ ?_⟩
    · rintro j v H4 H5 hlt hL ⟨rfl, rfl⟩
      rw [List.length_map] at hlt
      have hj : j < g.1.length := by omega
      have e1 : (1 : Int) + (j : Nat) = ((1 + j : Nat) : Int) := by omega
      have hz : (List.range' 1 g.1.length)[j]? = some (1 + j) := by rw [List.getElem?_range' hj]; simp
      have s5 := s3.trans hL.1
      have hP5 := sqS s5 hP
      have eD5 := hL.1 _ _ eD3
      dsimp only
      rw [e1]
      refine ⟨rfl, .int ((1 + j : Nat) : Int), rfl, .ref pA, rfl, pA, _, rfl, .inr hP5, rfl, _, rfl, ite2 (fun h1 => ?_) (fun h1 => ?_)⟩
      · have h1 : 1 + j = g.1.length := by simp at h1; omega
        exact ⟨_, rfl, hL.yes nD (Same.refl _) hz (by rw [h1]; simp) (by omega)⟩
      have h1 : ¬ (1 + j = g.1.length) := by simp at h1; omega
      have hk : 1 + j < g.1.length := by omega
      have hpr := hgp g.1[1 + j] (List.getElem_mem hk)
      obtain ⟨pn, hpn⟩ : ∃ pn : Nat, g.1[1 + j] = pn := ⟨g.1[1 + j].toNat, by omega⟩
      have hpl : pn < cs.length := by omega
      have hpv : (g.1.map V.int)[1 + j]? = some (.int (pn : Nat)) := by rw [atS hk, hpn]
      refine ⟨.ref Dm, rfl, .ref pA, rfl, .int ((1 + j : Nat) : Int), rfl, pA, _, _, .int pn, rfl, rfl, hP5, atI_nat hpv, Dm, _, _, .int (rDem cs gs)[pn], rfl, rfl, SqL.of eD5, atI_nat (atS (by omega)), .ref i, rfl, i, _, 0, .ref ca, rfl, rfl, sqS s5 hi, atI_nat (j := 0) rfl, .ref pA, rfl, .int ((1 + j : Nat) : Int), rfl, pA, _, _, .int pn, rfl, rfl, hP5, atI_nat hpv, ca, _, _, .int cs[pn], rfl, rfl, sqS s5 hc, atI_nat (atS hpl), _, _, rfl, rfl, _, rfl, ?_⟩
      have hfr : isFree g.1 (rCla cs gs) (1 + j) = decide ((rDem cs gs)[pn] < cs[pn]) := by
        unfold isFree
        rw [List.getD_eq_getElem?_getD, List.getElem?_eq_getElem hk, Option.getD_some, hpn, cla_has hpl]
        by_cases h : cs[pn] ≤ (rDem cs gs)[pn] <;> simp [h] <;> omega
      refine ite2 (fun h2 => ?_) (fun h2 => ?_)
      · exact ⟨_, rfl, hL.yes nD (Same.refl _) hz (by rw [hfr, h2]; simp) (by omega)⟩
      · exact hL.no (Same.refl _) hz (by rw [hfr]; simp [h1]; simpa using h2)
    rintro H4 hL
    have e4 := hL.done (by rw [List.length_range', List.length_map]; omega)
    refine ⟨D, _, 0, .int (resOf g.1 (rCla cs gs)), rfl, rfl, SqL.of e4, atI_nat (j := 0) (res_head hl1 (fun k h1 h2 => ?_) (by simp)), q _ (s3.trans hL.1)⟩
    have : (k == g.1.length) = false := by simp; omega
    rw [this]; rfl
set_option maxHeartbeats 2000000 in
theorem ok_LwH {f fLd fLr : Addr} {fd fdLd fdLr : FuncData} (F : Fun K "_law_rows" "_law_rows" sLw f fd)
    (FLd : Fun K "_law_demand" "_law_demand" sLd fLd fdLd) (bLd : Binds K fdLd ["_law_instance_here"] []) (gLd : mg "_law_demand" = some (.ref fLd)) (GLd : L2H.FnH P w K mg base CX0 1 fLd fdLd ["_law_instance_here"] (spLd K))
    (FLr : Fun K "_law_reserve" "_law_reserve" sLr fLr fdLr) (bLr : Binds K fdLr ["_law_instance_here", "_law_group"] []) (gLr : mg "_law_reserve" = some (.ref fLr)) (GLr : L2H.FnH P w K mg base CX0 2 fLr fdLr ["_law_instance_here", "_law_group"] (spRes K))
    (m_enumerate : mg "enumerate" = none) :
    L2H.FnH P w K mg base CX0 3 f fd ["_law_instance_here"] (spLw K) := by
  refine okW F scLw (fun vs H Q E h => ?_) (fun cdv A outer s H vs Q E pE hs hcE hr h => ?_)
  · obtain ⟨i, cs, gs, rfl, _⟩ := h; rfl
  · obtain ⟨i, cs, gs, rfl, hI, ok, q⟩ := h
    have hu64 : (A.deeper (envOfC "_law_rows" (defScope sLw) s.heap.objs.size f cdv)).units + 64 < cLine := by have := hr.un; omega
    have hu0 : (A.deeper (envOfC "_law_rows" (defScope sLw) s.heap.objs.size f cdv)).units < cLine := by have := hr.un; omega
    refine ⟨_, pss_cons (ps_parW (i := 1) (j := 2) hs scLw.nd rfl rfl (by decide) rfl rfl (pa_cons (pe_callW GLd (hr.mono (by omega)) hcE (by rfl) gLd FLd.kp bLd (pa_cons (pv 0) pa_nil)) (pa_cons (pe_lst (pa_nil)) pa_nil)) rfl)
      (pss_cons (ps_forW (passes_of rfl) hs (piW_enumT (by rfl) m_enumerate (pa_cons (pe_ix ix_tup (pv 0) (pe_int) (fun _ _ => rfl)) pa_nil)) (pg_tupW hs (pgs_cons (pg_name (i := 3) scLw.nd rfl (.inl rfl)) (pgs_cons (pg_tupW hs (pgs_cons (pg_name (i := 4) scLw.nd rfl (.inl rfl)) (pgs_cons (pg_name (i := 5) scLw.nd rfl (.inl rfl)) pgs_nil))) pgs_nil)))
        (pss_one (ps_if (PW.pt (pw_and (pt_cmpR (op_neNilT hu0) (pv 4) (pe_tup (pa_nil)) (nomark _)) (pw_and1 (pt_cmpR op_gt (pe_ix ix_list (pv 1) (pe_ix ix_tup (pv 4) (pe_int) (fun _ _ => rfl)) (fun _ _ => rfl)) (pe_ix ix_tup (pe_ix ix_tup (pv 0) (pe_int) (fun _ _ => rfl)) (pe_ix ix_tup (pv 4) (pe_int) (fun _ _ => rfl)) (fun _ _ => rfl)) (nomark _)))))
          (pss_cons (ps_set (i := 6) scLw.nd rfl (.inl rfl) (pe_callW GLr (hr.mono (by omega)) hcE (by rfl) gLr FLr.kp bLr (pa_cons (pv 0) (pa_cons (pv 3) pa_nil))))
          (pss_one (ps_expr (pe_bm PySem.F.plainAttrs_list PySem.F.slot_list_append PySem.F.type_list_append mt_append (pv 2) (pa_cons (pe_tup (pa_cons (pv 3) (pa_cons (pe_ix ix_tup (pv 4) (pe_int) (fun _ _ => rfl)) (pa_cons (pe_ix ix_tup (pe_op op_catA (pv 4) (pe_tup (pa_cons (pe_non) pa_nil))) (pv 6) (fun _ _ => rfl)) (pa_cons (pv 5) pa_nil))))) pa_nil))))) pss_nil)))
      (pss_one (ps_ret (pv 2)))), ?_⟩
    obtain ⟨_, ca, ga, xs, e, hi, hc, hgt, hgs⟩ := inst_open hI
    cases e
    have lx := DpAll.len hgs
    rw [List.length_map] at lx
    have h6 := ok.c6
    have h10 := ok.g10
    refine ⟨.ref i, rfl, i, cs, gs, rfl, hI, ok, fun H1 Dm s1 eD nD0 => ⟨Nat.zero_le _, fun Fo nFo => ⟨_, _, rfl, ?_⟩⟩⟩
    have fFo : H Fo = none := by
      cases e : H Fo with
      | none => rfl
      | some o => have := s1 _ _ e; rw [nFo] at this; cases this
    have nDF : Dm ≠ Fo := ne_of_none eD nFo
    have s2 := s1.trans (sameNew (o := .lst []) nFo)
    refine ⟨.ref i, rfl, i, _, 1, .ref ga, rfl, rfl, sqS s2 hi, atI_nat (j := 1) rfl, ga, _, rfl, sqS s2 hgt, for_it (walk_enumT (K := K) (a := ga) (xs := xs))
      (fun j σ H3 => ∃ (y3 y4 y5 y6 : Option V) (vs : List V), σ = [some (.ref i), some (.ref Dm), some (.ref Fo), y3, y4, y5, y6] ∧ Same H1 H3 ∧ H3 Fo = some (.lst vs) ∧ Rl (RwV K H3) vs (rowsTo cs gs j))
      ⟨none, none, none, none, [], rfl, sameNew nFo, upd_same, Rl.nil⟩ (fun j σ H3 _ h => by obtain ⟨_, _, _, _, _, _, s3, _⟩ := h; exact sqS (s1.trans s3) hgt) ?_ ?_⟩
    · rintro j v σ H3 H4 hlt ⟨y3, y4, y5, y6, vs, rfl, s3, e3, hv3⟩ ⟨T, x, y, rfl, nT, rfl, ex, ey⟩
      have hj : j < gs.length := by omega
      have hg : gs[j]? = some gs[j] := List.getElem?_eq_getElem hj
      obtain ⟨gA, pA, hx, hG, hP⟩ := grp_at hgs hg
      cases ex
      have ey : xs[j]? = some y := ey
      rw [hx] at ey
      cases ey
      have hgp := (ok.gp gs[j] (List.getElem_mem hj)).2.1
      have hgl := (ok.gp gs[j] (List.getElem_mem hj)).1
      have hlv : vs.length ≤ j := by rw [hv3.1]; exact rowsTo_len ..
      have sT := sameNew (o := .tup [.int (j : Nat), .ref gA]) nT
      refine ⟨T, _, rfl, SqT.of upd_same, rfl, _, _, rfl, _, _, rfl, gA, _, rfl, sqS (s1.trans (s3.trans sT)) hG, rfl, _, _, rfl, _, _, rfl, rfl, rfl, ?_⟩
      generalize hH4 : upd H3 T (.tup [.int (j : Nat), .ref gA]) = H4 at sT
      refine ⟨.ref pA, rfl, Nat.zero_le _, fun Em nEm => ⟨pA, Em, _, rfl, rfl, sqS (s1.trans ((s3.trans sT).trans (sameNew nEm))) hP, SqT.of upd_same, _, rfl, ?_⟩⟩
      have sE := sT.trans (sameNew (o := .tup []) nEm)
      generalize upd H4 Em (.tup []) = H5 at sE
      have s5 := s3.trans sE
      have s05 := s1.trans s5
      have e5 := sE _ _ e3
      have hv5 : Rl (RwV K H5) vs (rowsTo cs gs j) := hv3.mono fun v r h => h.same sE
      have rsn : rowsTo cs gs (j + 1) = rowsTo cs gs j ++ (rowAt cs gs j gs[j]).toList := rowsTo_succ hg
      by_cases hne : gs[j].1 = []
      · rw [hne]
        refine iteF (iteF ?_)
        refine ⟨_, _, _, _, vs, rfl, s5, e5, ?_⟩
        rw [rsn, show rowAt cs gs j gs[j] = none by unfold rowAt routeOf; rw [hne]; rfl]
        simpa using hv5
      obtain ⟨pp, ps, hps⟩ : ∃ pp ps, gs[j].1 = pp :: ps := by
        cases hgg : gs[j].1 with
        | nil => exact absurd hgg hne
        | cons a b => exact ⟨a, b, rfl⟩
      refine iteTT (by rw [hps]; rfl) ?_
      have hpr := hgp pp (by rw [hps]; simp)
      obtain ⟨pn, rfl⟩ : ∃ pn : Nat, pp = pn := ⟨pp.toNat, by omega⟩
      have hpl : pn < cs.length := by omega
      have hdl : pn < (rDem cs gs).length := by rw [rDem_len]; exact hpl
      have h0 : (gs[j].1.map V.int)[0]? = some (.int (pn : Nat)) := by rw [hps]; rfl
      have hP5 := sqS s05 hP
      refine ⟨.ref Dm, rfl, .ref pA, rfl, pA, _, 0, .int pn, rfl, rfl, hP5, atI_nat (j := 0) h0, Dm, _, _, .int (rDem cs gs)[pn], rfl, rfl, SqL.of (s5 _ _ eD), atI_nat (atS hdl), .ref i, rfl, i, _, 0, .ref ca, rfl, rfl, sqS s05 hi, atI_nat (j := 0) rfl, .ref pA, rfl, pA, _, 0, .int pn, rfl, rfl, hP5, atI_nat (j := 0) h0, ca, _, _, .int cs[pn], rfl, rfl, sqS s05 hc, atI_nat (atS hpl), _, _, rfl, rfl, _, rfl, ?_⟩
      have hro : routeOf cs gs gs[j] = if cs[pn] < (rDem cs gs)[pn] then some ((pn : Int), gs[j].1[resOf gs[j].1 (rCla cs gs)]?) else none := by
        unfold routeOf
        rw [hps]
        simp only
        rw [cro_has hpl]
        by_cases h : cs[pn] < (rDem cs gs)[pn] <;> simp [h]
      refine ite2 (fun h1 => ?_) (fun h1 => ?_)
      · have h1 : cs[pn] < (rDem cs gs)[pn] := by simpa using h1
        rw [if_pos h1] at hro
        have hra : rowAt cs gs j gs[j] = some (j, (pn : Int), gs[j].1[resOf gs[j].1 (rCla cs gs)]?, gs[j].2) := by unfold rowAt; rw [hro]; rfl
        refine ⟨.ref i, rfl, .int (j : Nat), rfl, i, j, cs, gs, gs[j], rfl, (TupK.of s05).dp _ _ (to_dInst _ _) hI, ok, hg, fun H6 s6 => ?_⟩
        have s06 := s05.trans s6
        have hrl := resOf_le gs[j].1 (rCla cs gs)
        refine ⟨.ref Fo, rfl, .inl ⟨rfl, _, SqL.of (s6 _ _ e5)⟩, .int (j : Nat), rfl, .ref pA, rfl, pA, _, 0, .int pn, rfl, rfl, sqS s06 hP, atI_nat (j := 0) h0, .ref pA, rfl, (show (1 : Nat) ≤ sizeLine by decide), fun N nN => ?_⟩
        have sN := sameNew (o := .tup [.non]) nN
        refine ⟨pA, N, _, _, rfl, rfl, sqS (s06.trans sN) hP, SqT.of upd_same, by rw [List.length_map]; have := small (n := gs[j].1.length + 1) (by omega); exact Nat.le_of_lt this, fun h => absurd h (by rw [hps]; simp), fun _ h => absurd h (by simp), fun _ _ C nC => ?_⟩
        have hcv : (gs[j].1.map V.int ++ [.non])[resOf gs[j].1 (rCla cs gs)]? = some (oV gs[j].1[resOf gs[j].1 (rCla cs gs)]?) := by
          by_cases hlt : resOf gs[j].1 (rCla cs gs) < gs[j].1.length
          · rw [List.getElem?_append_left (by rw [List.length_map]; exact hlt), atS hlt, List.getElem?_eq_getElem hlt]; rfl
          · have he : resOf gs[j].1 (rCla cs gs) = gs[j].1.length := by omega
            rw [he, List.getElem?_append_right (by rw [List.length_map]; omega), List.length_map, List.getElem?_eq_none (Nat.le_refl _), Nat.sub_self]; rfl
        have sC := sameNew (o := .tup (gs[j].1.map V.int ++ [.non])) nC
        refine ⟨.int ((resOf gs[j].1 (rCla cs gs) : Nat) : Int), rfl, C, _, _, _, rfl, rfl, SqT.of upd_same, atI_nat hcv, .int gs[j].2, rfl, (show (4 : Nat) ≤ sizeLine by decide), fun T2 nT2 => ?_⟩
        have sT2 := sameNew (o := .tup [.int (j : Nat), .int pn, oV gs[j].1[resOf gs[j].1 (rCla cs gs)]?, .int gs[j].2]) nT2
        have s9 := (s6.trans (sN.trans sC)).trans sT2
        have e9 := s9 _ _ e5
        have hT2 : SqT K _ T2 [.int (j : Nat), .int pn, oV gs[j].1[resOf gs[j].1 (rCla cs gs)]?, .int gs[j].2] := SqT.of (upd_same (H := upd (upd H6 N (.tup [.non])) C (.tup (gs[j].1.map V.int ++ [.non]))))
        generalize upd (upd (upd H6 N (.tup [.non])) C (.tup (gs[j].1.map V.int ++ [.non]))) T2 (.tup [.int (j : Nat), .int pn, oV gs[j].1[resOf gs[j].1 (rCla cs gs)]?, .int gs[j].2]) = H9 at s9 e9 hT2
        have tkp : TupK H9 (upd H9 Fo (.lst (vs ++ [.ref T2]))) := TupK.put e9
        refine ⟨Fo, vs, _, rfl, rfl, e9, small (by omega), _, _, _, _, vs ++ [.ref T2], rfl, samePut (s5.trans s9) nFo, upd_same, ?_⟩
        rw [rsn, hra]
        exact Rl.snoc (hv5.mono fun v r h => (h.same s9).tk tkp) ⟨T2, rfl, tkp.sq hT2⟩
      · have h1 : ¬ cs[pn] < (rDem cs gs)[pn] := by simpa using h1
        rw [if_neg h1] at hro
        refine ⟨_, _, _, _, vs, rfl, s5, e5, ?_⟩
        rw [rsn, show rowAt cs gs j gs[j] = none by unfold rowAt; rw [hro]; rfl]
        simpa using hv5
    rintro σ H3 ⟨y3, y4, y5, y6, vs, rfl, s3, e3, hv3⟩
    rw [lx] at hv3
    exact ⟨_, rfl, q _ Fo vs (s1.trans s3) e3 hv3 fFo⟩
set_option maxHeartbeats 2000000 in
theorem ok_LoH {f fLd : Addr} {fd fdLd : FuncData} (F : Fun K "_law_room" "_law_room" sLo f fd)
    (FLd : Fun K "_law_demand" "_law_demand" sLd fLd fdLd) (bLd : Binds K fdLd ["_law_instance_here"] []) (gLd : mg "_law_demand" = some (.ref fLd)) (GLd : L2H.FnH P w K mg base CX0 1 fLd fdLd ["_law_instance_here"] (spLd K))
    (m_zip : mg "zip" = none) (m_max : mg "max" = none) :
    L2H.FnH P w K mg base CX0 2 f fd ["_law_instance_here"] (spLo K) := by
  refine okW F scLo (fun vs H Q E h => ?_) (fun cdv A outer s H vs Q E pE hs hcE hr h => ?_)
  · obtain ⟨i, cs, gs, rfl, _⟩ := h; rfl
  · obtain ⟨i, cs, gs, rfl, hI, ok, q⟩ := h
    refine ⟨_, pss_cons (ps_set (i := 1) scLo.nd rfl (.inl rfl) (pe_callW GLd (hr.mono (by omega)) hcE (by rfl) gLd FLd.kp bLd (pa_cons (pv 0) pa_nil)))
      (pss_cons (ps_setLcW (i := 2) (own := [("_law_many", 3), ("_law_capacity", 4)]) (g := gTup K 2 (gCons (gName 3) (gCons (gName 4) gNil))) (tt := tYes) (te := tCB (fun xs H Q => ∃ i j, xs = [.int i, .int j] ∧ Q (.int (if j > i then j else i)) H) (tCons (tC (.int 0)) (tCons (tOp (rI0 fun i j => .int (i - j)) (tVar 3) (tVar 4)) tNil))) hs scLo.nd rfl rfl (sw_true rfl rfl rfl (by decide +kernel)) (piW_zipM (by rfl) m_zip (pa_cons (pv 1) (pa_cons (pe_ix ix_tup (pv 0) (pe_int) (fun _ _ => rfl)) pa_nil))) (blkOk_by (N := ["_law_instance_here", "_law_demand_here", "_law_excess", "_law_many", "_law_capacity"]) (sc := defScope sLo) (by decide +kernel)) (fun _ _ _ _ _ hs => pg_tupW hs (pgs_cons (pg_name (i := 3) scLo.nd rfl (.inl rfl)) (pgs_cons (pg_name (i := 4) scLo.nd rfl (.inl rfl)) pgs_nil))) (fun _ _ _ _ _ hs => pts_nil) (fun _ _ _ _ _ hs => pe_callB (call_max2W hs) (by rfl) m_max (by decide +kernel) (pa_cons (pe_int) (pa_cons (pe_op op_sub (pv 3) (pv 4)) pa_nil))))
      (pss_one (ps_ret (pe_tup (pa_cons (pv 2) (pa_cons (pe_lcW (own := [("_law_many", 3), ("_law_capacity", 4)]) (g := gTup K 2 (gCons (gName 3) (gCons (gName 4) gNil))) (tt := tYes) (te := tCB (fun xs H Q => ∃ i j, xs = [.int i, .int j] ∧ Q (.int (if j > i then j else i)) H) (tCons (tC (.int 0)) (tCons (tOp (rI0 fun i j => .int (i - j)) (tVar 4) (tVar 3)) tNil))) hs scLo.nd (piW_zipM (by rfl) m_zip (pa_cons (pv 1) (pa_cons (pe_ix ix_tup (pv 0) (pe_int) (fun _ _ => rfl)) pa_nil))) (blkOk_by (N := ["_law_instance_here", "_law_demand_here", "_law_excess", "_law_many", "_law_capacity"]) (sc := defScope sLo) (by decide +kernel)) (fun _ _ _ _ _ hs => pg_tupW hs (pgs_cons (pg_name (i := 3) scLo.nd rfl (.inl rfl)) (pgs_cons (pg_name (i := 4) scLo.nd rfl (.inl rfl)) pgs_nil))) (fun _ _ _ _ _ hs => pts_nil) (fun _ _ _ _ _ hs => pe_callB (call_max2W hs) (by rfl) m_max (by decide +kernel) (pa_cons (pe_int) (pa_cons (pe_op op_sub (pv 4) (pv 3)) pa_nil)))) pa_nil)))))), ?_⟩
    obtain ⟨_, ca, ga, xs, e, hi, hc, hgt, hgs⟩ := inst_open hI
    cases e
    have h6 := ok.c6
    have hdl := rDem_len cs gs
    refine ⟨.ref i, rfl, i, cs, gs, rfl, hI, ok, fun H1 Dm s1 eD nD0 => ?_⟩
    refine ⟨.ref Dm, rfl, .ref i, rfl, i, _, 0, .ref ca, rfl, rfl, sqS s1 hi, atI_nat (j := 0) rfl, Dm, ca, _, _, rfl, SqL.of eD, sqS s1 hc, fun D nD => lc_it (walk_zipM (K := K) (a := Dm) (b := ca) (xs := (rDem cs gs).map V.int) (ys := cs.map V.int) rfl)
      (LcP H1 D ((rDem cs gs).zip cs) (fun z => some (.int (mx (z.1 - z.2))))) (.start nD) (fun j H2 _ h => ⟨SqL.of (h.1 _ _ eD), sqS (s1.trans h.1) hc⟩) ?_ ?_⟩
    · rintro j v H2 H3 hlt hL ⟨T, x, y, rfl, nT, rfl, ex, ey⟩
      rw [List.length_map, List.length_map] at hlt
      have hj1 : j < (rDem cs gs).length := by omega
      have hj2 : j < cs.length := by omega
      have ex : ((rDem cs gs).map V.int)[j]? = some x := ex
      have ey : (cs.map V.int)[j]? = some y := ey
      rw [atS hj1] at ex
      rw [atS hj2] at ey
      cases ex
      cases ey
      have hz : ((rDem cs gs).zip cs)[j]? = some ((rDem cs gs)[j], cs[j]) := by rw [List.getElem?_zip_eq_some]; exact ⟨List.getElem?_eq_getElem hj1, List.getElem?_eq_getElem hj2⟩
      refine ⟨T, _, rfl, SqT.of upd_same, rfl, _, _, rfl, _, _, rfl, rfl, rfl, .int (rDem cs gs)[j], rfl, .int cs[j], rfl, _, _, rfl, rfl, _, _, rfl, hL.yes nD (sameNew nT) hz rfl (by omega)⟩
    rintro H2 hL
    have e2 := hL.done (by rw [List.length_zip, List.length_map, List.length_map]; exact Nat.le_refl _)
    rw [fm_map, exc_zip] at e2
    have s2 := s1.trans hL.1
    refine ⟨_, rfl, .ref Dm, rfl, .ref i, rfl, i, _, 0, .ref ca, rfl, rfl, sqS s2 hi, atI_nat (j := 0) rfl, Dm, ca, _, _, rfl, SqL.of (hL.1 _ _ eD), sqS s2 hc, fun D2 nD2 => lc_it (walk_zipM (K := K) (a := Dm) (b := ca) (xs := (rDem cs gs).map V.int) (ys := cs.map V.int) rfl)
      (LcP H2 D2 ((rDem cs gs).zip cs) (fun z => some (.int (mx (z.2 - z.1))))) (.start nD2) (fun j H3 _ h => ⟨SqL.of (h.1 _ _ (hL.1 _ _ eD)), sqS (s2.trans h.1) hc⟩) ?_ ?_⟩
    · rintro j v H3 H4 hlt hM ⟨T, x, y, rfl, nT, rfl, ex, ey⟩
      rw [List.length_map, List.length_map] at hlt
      have hj1 : j < (rDem cs gs).length := by omega
      have hj2 : j < cs.length := by omega
      have ex : ((rDem cs gs).map V.int)[j]? = some x := ex
      have ey : (cs.map V.int)[j]? = some y := ey
      rw [atS hj1] at ex
      rw [atS hj2] at ey
      cases ex
      cases ey
      have hz : ((rDem cs gs).zip cs)[j]? = some ((rDem cs gs)[j], cs[j]) := by rw [List.getElem?_zip_eq_some]; exact ⟨List.getElem?_eq_getElem hj1, List.getElem?_eq_getElem hj2⟩
      refine ⟨T, _, rfl, SqT.of upd_same, rfl, _, _, rfl, _, _, rfl, rfl, rfl, .int cs[j], rfl, .int (rDem cs gs)[j], rfl, _, _, rfl, rfl, _, _, rfl, hM.yes nD2 (sameNew nT) hz rfl (by omega)⟩
    rintro H3 hM
    have e3 := hM.done (by rw [List.length_zip, List.length_map, List.length_map]; exact Nat.le_refl _)
    rw [fm_map, fre_zip] at e3
    have eE3 := hM.1 _ _ e2
    refine ⟨(show (2 : Nat) ≤ sizeLine by decide), fun T nT => ?_⟩
    have sT := sameNew (o := .tup [.ref D, .ref D2]) nT
    have fr : ∀ {p : Addr}, H1 p = none → H p = none := fun {p} np => by
      cases e : H p with
      | none => rfl
      | some o => have := s1 _ _ e; rw [np] at this; cases this
    have fr2 : H1 D2 = none := by
      cases e : H1 D2 with
      | none => rfl
      | some o => have := hL.1 _ _ e; rw [nD2] at this; cases this
    exact q _ T D D2 ((s2.trans hM.1).trans sT) (SqT.of upd_same) (sT _ _ eE3) (sT _ _ e3) (fr nD) (fr fr2) (ne_of_none e2 nD2)
set_option maxHeartbeats 16000000 in
theorem ok_LgH {f fLo fLd fLw : Addr} {fd fdLo fdLd fdLw : FuncData} (F : Fun K "_law_is_shortage" "_law_is_shortage" sLg f fd)
    (FLo : Fun K "_law_room" "_law_room" sLo fLo fdLo) (bLo : Binds K fdLo ["_law_instance_here"] []) (gLo : mg "_law_room" = some (.ref fLo)) (GLo : L2H.FnH P w K mg base CX0 2 fLo fdLo ["_law_instance_here"] (spLo K))
    (FLd : Fun K "_law_demand" "_law_demand" sLd fLd fdLd) (bLd : Binds K fdLd ["_law_instance_here"] []) (gLd : mg "_law_demand" = some (.ref fLd)) (GLd : L2H.FnH P w K mg base CX0 1 fLd fdLd ["_law_instance_here"] (spLd K))
    (FLw : Fun K "_law_rows" "_law_rows" sLw fLw fdLw) (bLw : Binds K fdLw ["_law_instance_here"] []) (gLw : mg "_law_rows" = some (.ref fLw)) (GLw : L2H.FnH P w K mg base CX0 3 fLw fdLw ["_law_instance_here"] (spLw K))
    (m_tuple : mg "tuple" = none) (m_isinstance : mg "isinstance" = none) (m_bool : mg "bool" = none) (m_len : mg "len" = none) (m_range : mg "range" = none) (m_list : mg "list" = none) (m_set : mg "set" = none) (m_sorted : mg "sorted" = none) (m_sum : mg "sum" = none) :
    L2H.FnH P w K mg base CX0 4 f fd ["_law_instance_here", "_law_crowd", "_law_room_here"] (spLg K) := by
  refine okW F scLg (fun vs H Q E h => ?_) (fun cdv A outer s H vs Q E pE hs hcE hr h => ?_)
  · obtain ⟨i, ca, ra, cs, gs, ss, rfl, _⟩ := h; rfl
  · obtain ⟨i, ca, ra, cs, gs, ss, rfl, hI, ok, hss, hF, hca, hra, q⟩ := h
    have hu64 : (A.deeper (envOfC "_law_is_shortage" (defScope sLg) s.heap.objs.size f cdv)).units + 64 < cLine := by have := hr.un; omega
    refine ⟨_, pss_cons (ps_asg (pe_callW GLo (hr.mono (by omega)) hcE (by rfl) gLo FLo.kp bLo (pa_cons (pv 0) pa_nil)) (pg_tupW hs (pgs_cons (pg_name (i := 3) scLg.nd rfl (.inr rfl)) (pgs_cons (pg_name (i := 4) scLg.nd rfl (.inr rfl)) pgs_nil))))
      (pss_cons (ps_set (i := 5) scLg.nd rfl (.inl rfl) (pe_callW GLd (hr.mono (by omega)) hcE (by rfl) gLd FLd.kp bLd (pa_cons (pv 0) pa_nil)))
      (pss_cons (ps_forW (passes_of rfl) hs (piW_list (pe_lst (pa_cons (pe_tup (pa_cons (pv 1) (pa_cons (pv 3) pa_nil))) (pa_cons (pe_tup (pa_cons (pv 2) (pa_cons (pv 4) pa_nil))) pa_nil)))) (pg_tupW hs (pgs_cons (pg_name (i := 6) scLg.nd rfl (.inl rfl)) (pgs_cons (pg_name (i := 7) scLg.nd rfl (.inr rfl)) pgs_nil)))
        (pss_cons (ps_if (PW.pt (pw_or (pt_not (pt_val (pe_callB call_isi (by rfl) m_isinstance (by decide +kernel) (pa_cons (pv 6) (pa_cons (pe_bltn (v := .ty "tuple") (by rfl) m_tuple (by decide +kernel) rfl) pa_nil))))) (pw_or1 (pt_cmpR (op_neD hu64) (pe_lcW (own := [("_law_post", 10)]) (g := gName 10) (tt := tB (tCB (rIsi K) (tCons (tVar 10) (tCons (tC (.ty "bool")) tNil)))) (te := tVar 10) hs scLg.nd (piW_tup (pv 6)) (blkOk_by (N := ["_law_instance_here", "_law_crowd", "_law_room_here", "_law_excess", "_law_free", "_law_demand_here", "_law_value", "_law_allowed", "_law_posts", "_law_need", "_law_post", "_law_row"]) (sc := defScope sLg) (by decide +kernel)) (fun _ _ _ _ _ hs => pg_name (i := 10) scLg.nd rfl (.inl rfl)) (fun _ _ _ _ _ hs => pts_one (pt_val (pe_callB call_isi (by rfl) m_isinstance (by decide +kernel) (pa_cons (pv 10) (pa_cons (pe_bltn (v := .ty "bool") (by rfl) m_bool (by decide +kernel) rfl) pa_nil))))) (fun _ _ _ _ _ hs => pv 10)) (pe_lst (pa_nil)) (nomark _)))))
          (pss_one (ps_ret (pe_bl))) pss_nil)
        (pss_cons (ps_set (i := 8) scLg.nd rfl (.inr rfl) (pe_lcW (own := [("_law_post", 10)]) (g := gName 10) (tt := tTest (tOp (rI0 fun i j => .bl (decide (j < i))) (tOp (rIxL K) (tVar 7) (tVar 10)) (tC (.int 0)))) (te := tVar 10) hs scLg.nd (piW_range1 (by rfl) m_range (pa_cons (pe_callB call_lenQ (by rfl) m_len PySem.boot_len (pa_cons (pv 7) pa_nil)) pa_nil)) (blkOk_by (N := ["_law_instance_here", "_law_crowd", "_law_room_here", "_law_excess", "_law_free", "_law_demand_here", "_law_value", "_law_allowed", "_law_posts", "_law_need", "_law_post", "_law_row"]) (sc := defScope sLg) (by decide +kernel)) (fun _ _ _ _ _ hs => pg_name (i := 10) scLg.nd rfl (.inl rfl)) (fun _ _ _ _ _ hs => pts_one (pt_cmpR op_gt (pe_ix ix_list (pv 7) (pv 10) (fun _ _ => rfl)) (pe_int) (nomark _))) (fun _ _ _ _ _ hs => pv 10)))
        (pss_one (ps_if (PW.pt (pw_or (pt_cmpR (op_neD hu64) (pe_lcW (own := [("_law_post", 10)]) (g := gName 10) (tt := tTest (tOp (rIn K true) (tVar 10) (tVar 8))) (te := tVar 10) hs scLg.nd (piW_tup (pv 6)) (blkOk_by (N := ["_law_instance_here", "_law_crowd", "_law_room_here", "_law_excess", "_law_free", "_law_demand_here", "_law_value", "_law_allowed", "_law_posts", "_law_need", "_law_post", "_law_row"]) (sc := defScope sLg) (by decide +kernel)) (fun _ _ _ _ _ hs => pg_name (i := 10) scLg.nd rfl (.inl rfl)) (fun _ _ _ _ _ hs => pts_one (pt_cmpR op_notIn_seq (pv 10) (pv 8) (by rfl))) (fun _ _ _ _ _ hs => pv 10)) (pe_lst (pa_nil)) (nomark _)) (pw_or1 (pt_cmpR (op_neD hu64) (pe_callTy call_list_of (by rfl) m_list (by decide +kernel) (pa_cons (pv 6) pa_nil)) (pe_callB (cr_sortedSetW hs) (by rfl) m_sorted (by decide +kernel) (pa_cons (pe_callTy (cr_setTW hs) (by rfl) m_set (by decide +kernel) (pa_cons (pv 6) pa_nil)) pa_nil)) (nomark _)))))
          (pss_one (ps_ret (pe_bl))) pss_nil)))))
      (pss_cons (ps_set (i := 9) scLg.nd rfl (.inl rfl) (pe_op op_sub (pe_callB (cr_sumW hs) (by rfl) m_sum (by decide +kernel) (pa_cons (pe_lcW (own := [("_law_post", 10)]) (g := gName 10) (tt := tYes) (te := tOp (rIxL K) (tVar 3) (tVar 10)) hs scLg.nd (piW_tup (pv 1)) (blkOk_by (N := ["_law_instance_here", "_law_crowd", "_law_room_here", "_law_excess", "_law_free", "_law_demand_here", "_law_value", "_law_allowed", "_law_posts", "_law_need", "_law_post", "_law_row"]) (sc := defScope sLg) (by decide +kernel)) (fun _ _ _ _ _ hs => pg_name (i := 10) scLg.nd rfl (.inl rfl)) (fun _ _ _ _ _ hs => pts_nil) (fun _ _ _ _ _ hs => pe_ix ix_list (pv 3) (pv 10) (fun _ _ => rfl))) pa_nil)) (pe_callB (cr_sumW hs) (by rfl) m_sum (by decide +kernel) (pa_cons (pe_lcW (own := [("_law_post", 10)]) (g := gName 10) (tt := tYes) (te := tOp (rIxL K) (tVar 4) (tVar 10)) hs scLg.nd (piW_tup (pv 2)) (blkOk_by (N := ["_law_instance_here", "_law_crowd", "_law_room_here", "_law_excess", "_law_free", "_law_demand_here", "_law_value", "_law_allowed", "_law_posts", "_law_need", "_law_post", "_law_row"]) (sc := defScope sLg) (by decide +kernel)) (fun _ _ _ _ _ hs => pg_name (i := 10) scLg.nd rfl (.inl rfl)) (fun _ _ _ _ _ hs => pts_nil) (fun _ _ _ _ _ hs => pe_ix ix_list (pv 4) (pv 10) (fun _ _ => rfl))) pa_nil))))
      (pss_one (ps_ret (pe_cmpR op_gt (pv 9) (pe_callB (cr_sumW hs) (by rfl) m_sum (by decide +kernel) (pa_cons (pe_lcW (own := [("_law_row", 11)]) (g := gName 11) (tt := tAnd (tTest (tOp (rIn K false) (tOp (rIxT K) (tVar 11) (tC (.int 1))) (tVar 1))) (tTest (tOp (rIn K true) (tOp (rIxT K) (tVar 11) (tC (.int 2))) (tVar 2)))) (te := tOp (rIxT K) (tVar 11) (tC (.int 3))) hs scLg.nd (piW_list (pe_callW GLw (hr.mono (by omega)) hcE (by rfl) gLw FLw.kp bLw (pa_cons (pv 0) pa_nil))) (blkOk_by (N := ["_law_instance_here", "_law_crowd", "_law_room_here", "_law_excess", "_law_free", "_law_demand_here", "_law_value", "_law_allowed", "_law_posts", "_law_need", "_law_post", "_law_row"]) (sc := defScope sLg) (by decide +kernel)) (fun _ _ _ _ _ hs => pg_name (i := 11) scLg.nd rfl (.inl rfl)) (fun _ _ _ _ _ hs => pts_one (PW.pt (pw_and (pt_cmpR op_in_seq (pe_ix ix_tup (pv 11) (pe_int) (fun _ _ => rfl)) (pv 1) (by rfl)) (pw_and1 (pt_cmpR op_notIn_seq (pe_ix ix_tup (pv 11) (pe_int) (fun _ _ => rfl)) (pv 2) (by rfl)))))) (fun _ _ _ _ _ hs => pe_ix ix_tup (pv 11) (pe_int) (fun _ _ => rfl))) pa_nil)) (nomark _))))))), ?_⟩
    obtain ⟨_, ca0, ga, xs, e, hi, hc, hgt, hgs⟩ := inst_open hI
    cases e
    have h6 := ok.c6
    have lss : ss.length ≤ 6 := by
      rw [← subs_is (nz_nodup cs gs) hss]
      exact Nat.le_trans (List.length_filter_le _ _) (Nat.le_trans (nz_len cs gs) h6)
    have hsN : ∀ p ∈ ss, (∃ pn : Nat, p = pn ∧ pn < cs.length) ∧ spOf cs gs p ≠ 0 := fun p hp => by
      rw [← subs_is (nz_nodup cs gs) hss] at hp
      have := nz_mem.mp (List.mem_filter.mp hp).1
      exact ⟨⟨p.toNat, by omega, by omega⟩, this.2⟩
    have pss : ss.Pairwise (· < ·) := by
      rw [← subs_is (nz_nodup cs gs) hss]
      exact (nz_asc cs gs).filter _
    -- room, demand
    refine ⟨.ref i, rfl, i, cs, gs, rfl, hI, ok, fun H1 T E F s1 hT eE eF fE fF nEF => ⟨T, _, rfl, hT, rfl, _, _, rfl, _, _, rfl, rfl, ?_⟩⟩
    refine ⟨.ref i, rfl, i, cs, gs, rfl, (TupK.of s1).dp _ _ (to_dInst _ _) hI, ok, fun H2 Dm s2 eD _ => ?_⟩
    have s02 := s1.trans s2
    refine ⟨.ref ca, rfl, .ref E, rfl, (show (2 : Nat) ≤ sizeLine by decide), fun T1 nT1 => ⟨.ref ra, rfl, .ref F, rfl, (show (2 : Nat) ≤ sizeLine by decide), fun T2 nT2 => ⟨(show (2 : Nat) ≤ sizeLine by decide), fun Lp nLp => ?_⟩⟩⟩
    have sT1 := sameNew (o := .tup [.ref ca, .ref E]) nT1
    have sT2 := sameNew (o := .tup [.ref ra, .ref F]) nT2
    have sLp := sameNew (o := .lst [.ref T1, .ref T2]) nLp
    have s24 := (sT1.trans sT2).trans sLp
    have eLp : (upd (upd (upd H2 T1 (.tup [.ref ca, .ref E])) T2 (.tup [.ref ra, .ref F])) Lp (.lst [.ref T1, .ref T2])) Lp = some (.lst [.ref T1, .ref T2]) := upd_same
    have hT1 : SqT K (upd (upd (upd H2 T1 (.tup [.ref ca, .ref E])) T2 (.tup [.ref ra, .ref F])) Lp (.lst [.ref T1, .ref T2])) T1 [.ref ca, .ref E] := SqT.of ((sT2.trans sLp) _ _ upd_same)
    have hT2 : SqT K (upd (upd (upd H2 T1 (.tup [.ref ca, .ref E])) T2 (.tup [.ref ra, .ref F])) Lp (.lst [.ref T1, .ref T2])) T2 [.ref ra, .ref F] := SqT.of (sLp _ _ upd_same)
    generalize upd (upd (upd H2 T1 (.tup [.ref ca, .ref E])) T2 (.tup [.ref ra, .ref F])) Lp (.lst [.ref T1, .ref T2]) = H4 at s24 eLp hT1 hT2
    have s04 := s02.trans s24
    have eE4 := (s2.trans s24) _ _ eE
    have eF4 := (s2.trans s24) _ _ eF
    have hca4 := sqS s04 hca
    have hra4 := sqS s04 hra
    -- both sides
    have both : ∀ (j : Nat) (v : V), [V.ref T1, V.ref T2][j]? = some v → ∃ (Tk a A : Addr) (ns al : List Int), v = .ref Tk ∧ SqT K H4 Tk [.ref a, .ref A] ∧ SqT K H4 a (ns.map V.int) ∧ H4 A = some (.lst (al.map V.int)) ∧ (∀ p ∈ ns, ∃ pn : Nat, p = pn ∧ ∃ h : pn < al.length, 0 < al[pn]) ∧ ns.Pairwise (· < ·) ∧ ns.length ≤ 6 ∧ al.length ≤ 6 := by
      intro j v hv
      match j, hv with
      | 0, hv =>
        cases hv
        refine ⟨T1, ca, E, _, _, rfl, hT1, hca4, eE4, fun p hp => ?_, pss.filter _, Nat.le_trans (List.length_filter_le _ _) lss, by rw [rExc_len]; exact h6⟩
        have h1 := List.mem_filter.mp hp
        obtain ⟨⟨pn, rfl, hpn⟩, _⟩ := hsN p h1.1
        refine ⟨pn, rfl, by rw [rExc_len]; exact hpn, ?_⟩
        rw [(exc_get hpn).1]
        have := of_decide_eq_true h1.2
        unfold mx
        split <;> omega
      | 1, hv =>
        cases hv
        refine ⟨T2, ra, F, _, _, rfl, hT2, hra4, eF4, fun p hp => ?_, pss.filter _, Nat.le_trans (List.length_filter_le _ _) lss, by rw [rFre_len]; exact h6⟩
        have h1 := List.mem_filter.mp hp
        obtain ⟨⟨pn, rfl, hpn⟩, _⟩ := hsN p h1.1
        refine ⟨pn, rfl, by rw [rFre_len]; exact hpn, ?_⟩
        rw [(exc_get hpn).2]
        have := of_decide_eq_true h1.2
        unfold mx
        split <;> omega
      | j + 2, hv => simp at hv
    refine ⟨Lp, rfl, ⟨_, SqL.of eLp⟩, for_it (walk_list (K := K) (a := Lp) (xs := [.ref T1, .ref T2]))
      (fun j σ H5 => ∃ (y6 y7 y8 : Option V), σ = [some (.ref i), some (.ref ca), some (.ref ra), some (.ref E), some (.ref F), some (.ref Dm), y6, y7, y8, none, none, none] ∧ Same H4 H5)
      ⟨none, none, none, rfl, Same.refl _⟩ (fun j σ H5 _ h => by obtain ⟨_, _, _, _, s5⟩ := h; exact SqL.of (s5 _ _ eLp)) ?_ ?_⟩
    · rintro j v σ H5 H5' hlt ⟨y6, y7, y8, rfl, s5⟩ ⟨rfl, hv⟩
      obtain ⟨Tk, a, A, ns, al, rfl, hTk, ha, eA, hp, hpw, lns, lal⟩ := both j v hv
      have ha5 := sqS s5 ha
      refine ⟨Tk, _, rfl, sqS s5 hTk, rfl, _, _, rfl, _, _, rfl, rfl, ?_⟩
      have hd : Dq K i i H5' (.ref a) (dI ns) := .of_dp (to_ints ns) (dI_sq ha5)
      refine ⟨.ref a, rfl, .ref a, .ty "tuple", _, _, _, rfl, .ty _, hd.ty, kit_tup (dI ns), _, rfl, iteFF rfl ?_⟩
      refine ⟨.ref a, rfl, a, rfl, ⟨_, ha5⟩, fun D nD => lc_it (walk_tup (K := K) (a := a) (xs := ns.map V.int))
        (LcP H5' D ns (fun _ => none)) (.start nD) (fun k H6 _ h => sqS h.1 ha5) ?_ ?_⟩
      · rintro k v H6 H7 hk hL ⟨rfl, hv⟩
        have hv : (ns.map V.int)[k]? = some v := hv
        rw [List.getElem?_map] at hv
        obtain ⟨p, hpk, rfl⟩ := Option.map_eq_some_iff.mp hv
        have hdp : Dq K i i H7 (.int p) (.int p) := .int p
        exact ⟨rfl, .int p, rfl, .int p, .ty "bool", _, _, _, rfl, .ty _, hdp.ty, kit_bool (.int p), _, rfl, iteFF rfl (hL.no (Same.refl _) hpk rfl)⟩
      rintro H6 hL
      have e6 := hL.done (by rw [List.length_map]; exact Nat.le_refl _)
      have en : ns.filterMap (fun _ => (none : Option V)) = [] := by
        clear hp hpw lns ha ha5 hd hL e6
        induction ns with
        | nil => rfl
        | cons x l ih => simp
      rw [en] at e6
      refine ⟨Nat.zero_le _, fun Em nEm => ⟨.list [], .list [], .lst (SqL.of (upNew nEm e6)) .nil, .lst (SqL.of upd_same) .nil, by decide, by decide, _, rfl, ?_⟩⟩
      rw [eqv_nil]
      refine iteF ?_
      have s6 := hL.1.trans (sameNew (o := .lst []) nEm)
      generalize upd H6 Em (.lst []) = H7 at s6
      have s57 := s5.trans s6
      have eA7 := s57 _ _ eA
      -- the posts that may stand there
      refine ⟨.ref A, rfl, A, _, rfl, .inl (SqL.of eA7), _, rfl, by omega, by rw [List.length_map]; omega, fun D2 nD2 => lc_it (walk_range (lo := 0) (n := (((List.map V.int al).length : Nat) : Int).toNat))
        (LcP H7 D2 (List.range al.length) (fun (k : Nat) => if decide (0 < al.getD k 0) = true then some (.int (k : Nat)) else none)) (.start nD2) (fun _ _ _ _ => trivial) ?_ ?_⟩
      · rintro k v H8 H9 hk hM ⟨rfl, rfl⟩
        rw [List.length_map, Int.toNat_natCast] at hk
        have e0 : (0 : Int) + (k : Nat) = ((k : Nat) : Int) := by omega
        have hgd : al.getD k 0 = al[k] := by rw [List.getD_eq_getElem?_getD, List.getElem?_eq_getElem hk]; rfl
        dsimp only
        rw [e0]
        refine ⟨rfl, .ref A, rfl, .int (k : Nat), rfl, A, _, _, _, rfl, rfl, SqL.of (hM.1 _ _ eA7), atI_nat (atS hk), _, _, rfl, rfl, _, rfl, ite2 (fun h1 => ?_) (fun h1 => ?_)⟩
        · exact ⟨_, rfl, hM.yes nD2 (Same.refl _) (List.getElem?_range hk) (by rw [hgd]; exact if_pos h1) (by omega)⟩
        · exact hM.no (Same.refl _) (List.getElem?_range hk) (by rw [hgd]; exact if_neg h1)
      rintro H8 hM
      have e8 := hM.done (by rw [List.length_map, List.length_range]; omega)
      have em8 : (List.range al.length).filterMap (fun (k : Nat) => if decide (0 < al.getD k 0) = true then some (V.int (k : Nat)) else none) = (sel (fun x => decide (0 < x)) al al.length).map V.int := by
        rw [fm_filter]; unfold sel; rw [List.map_map]; rfl
      rw [em8] at e8
      have s58 := s57.trans hM.1
      have ha8 := sqS s58 ha
      refine ⟨.ref a, rfl, a, rfl, ⟨_, ha8⟩, fun D3 nD3 => lc_it (walk_tup (K := K) (a := a) (xs := ns.map V.int))
        (LcP H8 D3 ns (fun _ => none)) (.start nD3) (fun k H9 _ h => sqS h.1 ha8) ?_ ?_⟩
      · rintro k v H9 H10 hk hN ⟨rfl, hv⟩
        have hv : (ns.map V.int)[k]? = some v := hv
        rw [List.getElem?_map] at hv
        obtain ⟨p, hpk, rfl⟩ := Option.map_eq_some_iff.mp hv
        obtain ⟨pn, rfl, hpl, hp0⟩ := hp p (List.mem_of_getElem? hpk)
        refine ⟨rfl, .int (pn : Nat), rfl, .ref D2, rfl, D2, _, rfl, .inl (SqL.of (hN.1 _ _ e8)), rfl, flat_ints _, _, rfl, iteFF ?_ (hN.no (Same.refl _) hpk rfl)⟩
        rw [if_pos rfl, inV_ints, sel_has _ _ hpl, List.getD_eq_getElem?_getD, List.getElem?_eq_getElem hpl]
        simpa using hp0
      rintro H9 hN
      have e9 := hN.done (by rw [List.length_map]; exact Nat.le_refl _)
      rw [en] at e9
      refine ⟨Nat.zero_le _, fun Em2 nEm2 => ⟨.list [], .list [], .lst (SqL.of (upNew nEm2 e9)) .nil, .lst (SqL.of upd_same) .nil, by decide, by decide, _, rfl, ?_⟩⟩
      rw [eqv_nil]
      refine iteF ?_
      have s9 := hN.1.trans (sameNew (o := .lst []) nEm2)
      generalize upd H9 Em2 (.lst []) = H10 at s9
      have s510 := s58.trans s9
      have ha10 := sqS s510 ha
      refine ⟨.ref a, rfl, a, _, rfl, .inr ha10, fun Lv nLv => ?_⟩
      have sLv := sameNew (o := .lst (ns.map V.int)) nLv
      refine ⟨.ref a, rfl, a, ns, rfl, sqS sLv ha10, by omega, fun Ps c nPs hks hcn => ⟨Ps, _, c, rfl, upd_same, by omega, fun ms pm hms hmm hml nPm => ?_⟩⟩
      have hmn : ns = ms := lt_unique hpw hms fun k => by rw [hmm k]; simp
      have sPm := (sameNew (o := SetO w Ps (fun j => decide (j ∈ ns)) c) nPs).trans (sameNew (o := .lst (ms.map V.int)) nPm)
      refine ⟨.list (ns.map PyData.int), .list (ms.map PyData.int), .lst (SqL.of (sPm _ _ upd_same)) (dp_ints _), .lst (SqL.of upd_same) (dp_ints _), shaped_ints _, shaped_ints _, _, rfl, iteFF ?_ ?_⟩
      · rw [eqv_intsL, hmn]; simp
      · exact ⟨_, _, _, rfl, s510.trans (sLv.trans sPm)⟩
    rintro σ H5 ⟨y6, y7, y8, rfl, s5⟩
    have s05 := s04.trans s5
    have eE5 := s5 _ _ eE4
    have eF5 := s5 _ _ eF4
    have hca5 := sqS s5 hca4
    have hra5 := sqS s5 hra4
    -- what is needed
    refine ⟨.ref ca, rfl, ca, rfl, ⟨_, hca5⟩, fun D nD => lc_it (walk_tup (K := K) (a := ca) (xs := (ss.filter fun p => decide (spOf cs gs p < 0)).map V.int))
      (LcP H5 D (ss.filter fun p => decide (spOf cs gs p < 0)) (fun p => some (.int (- spOf cs gs p)))) (.start nD) (fun k H6 _ h => sqS h.1 hca5) ?_ ?_⟩
    · rintro k v H6 H7 hk hL ⟨rfl, hv⟩
      have hv : ((ss.filter fun p => decide (spOf cs gs p < 0)).map V.int)[k]? = some v := hv
      rw [List.getElem?_map] at hv
      obtain ⟨p, hpk, rfl⟩ := Option.map_eq_some_iff.mp hv
      have h1 := List.mem_filter.mp (List.mem_of_getElem? hpk)
      obtain ⟨⟨pn, rfl, hpn⟩, _⟩ := hsN p h1.1
      have hle : pn < (rExc cs gs).length := by rw [rExc_len]; exact hpn
      rw [List.length_map] at hk
      have hkl := List.length_filter_le (fun p => decide (spOf cs gs p < 0)) ss
      refine ⟨rfl, .ref E, rfl, .int (pn : Nat), rfl, E, _, _, _, rfl, rfl, SqL.of (hL.1 _ _ eE5), atI_nat (atS hle), hL.yes nD (Same.refl _) hpk ?_ (by omega)⟩
      rw [(exc_get hpn).1]
      have := of_decide_eq_true h1.2
      unfold mx
      rw [if_pos (by omega)]
    rintro H6 hL
    have e6 := hL.done (by rw [List.length_map]; exact Nat.le_refl _)
    rw [fm_mapI] at e6
    refine ⟨D, _, rfl, SqL.of e6, ?_⟩
    have hra6 := sqS hL.1 hra5
    have eF6 := hL.1 _ _ eF5
    refine ⟨.ref ra, rfl, ra, rfl, ⟨_, hra6⟩, fun D2 nD2 => lc_it (walk_tup (K := K) (a := ra) (xs := (ss.filter fun p => decide (0 < spOf cs gs p)).map V.int))
      (LcP H6 D2 (ss.filter fun p => decide (0 < spOf cs gs p)) (fun p => some (.int (spOf cs gs p)))) (.start nD2) (fun k H7 _ h => sqS h.1 hra6) ?_ ?_⟩
    · rintro k v H7 H8 hk hM ⟨rfl, hv⟩
      have hv : ((ss.filter fun p => decide (0 < spOf cs gs p)).map V.int)[k]? = some v := hv
      rw [List.getElem?_map] at hv
      obtain ⟨p, hpk, rfl⟩ := Option.map_eq_some_iff.mp hv
      have h1 := List.mem_filter.mp (List.mem_of_getElem? hpk)
      obtain ⟨⟨pn, rfl, hpn⟩, _⟩ := hsN p h1.1
      have hle : pn < (rFre cs gs).length := by rw [rFre_len]; exact hpn
      rw [List.length_map] at hk
      have hkl := List.length_filter_le (fun p => decide (0 < spOf cs gs p)) ss
      refine ⟨rfl, .ref F, rfl, .int (pn : Nat), rfl, F, _, _, _, rfl, rfl, SqL.of (hM.1 _ _ eF6), atI_nat (atS hle), hM.yes nD2 (Same.refl _) hpk ?_ (by omega)⟩
      rw [(exc_get hpn).2]
      have := of_decide_eq_true h1.2
      unfold mx
      rw [if_pos (by omega)]
    rintro H7 hM
    have e7 := hM.done (by rw [List.length_map]; exact Nat.le_refl _)
    rw [fm_mapI] at e7
    refine ⟨D2, _, rfl, SqL.of e7, _, _, rfl, rfl, ?_⟩
    have s07 := s05.trans (hL.1.trans hM.1)
    have hca7 := sqS (hL.1.trans hM.1) hca5
    have hra7 := sqS (hL.1.trans hM.1) hra5
    refine ⟨_, rfl, .ref i, rfl, i, cs, gs, rfl, (TupK.of s07).dp _ _ (to_dInst _ _) hI, ok, fun H8 Ro rv s8 eR hR fR => ⟨Ro, rfl, ⟨_, SqL.of eR⟩, fun D3 nD3 => lc_it (walk_list (K := K) (a := Ro) (xs := rv))
      (LcP H8 D3 (rowsTo cs gs gs.length) (fun r => if (inV (.int r.2.1) ((ss.filter fun p => decide (spOf cs gs p < 0)).map V.int) && !inV (oV r.2.2.1) ((ss.filter fun p => decide (0 < spOf cs gs p)).map V.int)) = true then some (.int r.2.2.2) else none)) (.start nD3) (fun k H9 _ h => SqL.of (h.1 _ _ eR)) ?_ ?_⟩⟩
    · rintro k v H9 H10 hk hN ⟨rfl, hv⟩
      have hv : rv[k]? = some v := hv
      obtain ⟨r, hr, Tr, rfl, hTr⟩ := hR.at hv
      have hTr9 := sqS hN.1 hTr
      have hrl := rowsTo_len cs gs gs.length
      have hrv := hR.1
      have h10 := ok.g10
      refine ⟨rfl, .ref Tr, rfl, Tr, _, 1, .int r.2.1, rfl, rfl, hTr9, atI_nat (j := 1) rfl, .ref ca, rfl, ca, _, rfl, .inr (sqS (s8.trans hN.1) hca7), rfl, flat_ints _, _, rfl, ?_⟩
      rw [if_neg Bool.false_ne_true]
      cases hb1 : inV (.int r.2.1) ((ss.filter fun p => decide (spOf cs gs p < 0)).map V.int) with
      | false => exact iteF (iteF (hN.no (Same.refl _) hr (by rw [hb1]; rfl)))
      | true =>
        refine iteT ⟨.ref Tr, rfl, Tr, _, 2, oV r.2.2.1, rfl, rfl, hTr9, atI_nat (j := 2) rfl, .ref ra, rfl, ra, _, rfl, .inr (sqS (s8.trans hN.1) hra7), by cases r.2.2.1 <;> rfl, flat_ints _, _, rfl, ?_⟩
        rw [if_pos rfl]
        cases hb2 : inV (oV r.2.2.1) ((ss.filter fun p => decide (0 < spOf cs gs p)).map V.int) with
        | true => exact iteF (hN.no (Same.refl _) hr (by rw [hb1, hb2]; rfl))
        | false => exact iteT ⟨.ref Tr, rfl, Tr, _, 3, .int r.2.2.2, rfl, rfl, hTr9, atI_nat (j := 3) rfl, hN.yes nD3 (Same.refl _) hr (by rw [hb1, hb2]; rfl) (by omega)⟩
    rintro H9 hN
    have e9 := hN.done (Nat.le_of_eq hR.1.symm)
    have em9 : (rowsTo cs gs gs.length).filterMap (fun r => if (inV (.int r.2.1) ((ss.filter fun p => decide (spOf cs gs p < 0)).map V.int) && !inV (oV r.2.2.1) ((ss.filter fun p => decide (0 < spOf cs gs p)).map V.int)) = true then some (V.int r.2.2.2) else none) = (((rowsTo cs gs gs.length).filter (fun r => inV (.int r.2.1) ((ss.filter fun p => decide (spOf cs gs p < 0)).map V.int) && !inV (oV r.2.2.1) ((ss.filter fun p => decide (0 < spOf cs gs p)).map V.int))).map (fun r => r.2.2.2)).map V.int := by rw [fm_filter, List.map_map]; rfl
    rw [em9] at e9
    refine ⟨D3, _, rfl, SqL.of e9, _, _, rfl, rfl, ?_⟩
    have := q _ (s07.trans (s8.trans hN.1))
    dsimp only
    rw [decide_eq_true (short_sum ok hss hF)]
    exact this
end
end Pv
namespace Pv
open PySem PySem.Spec PyProof.Rows L2
abbrev sLf : Stmt := topS 40
theorem scLf : FnScope ["_law_instance_here", "_law_group", "_law_found_here", "error"] ["_law_instance_here", "_law_group"] (defScope sLf) := ⟨rfl, rfl, rfl, by decide +kernel, rfl, by decide +kernel, by decide +kernel⟩
def tsLf (K : PySem.W.Frag) (cNU cTM : Addr) (a : Addr) (cls : Value) (d : Option Addr) : TS :=
  tIfS (tAnd (tNot (tB (tCB (rIsX K a cls d) (tCons (tVar 3) (tCons (tC (.ref cTM)) tNil))))) (tB (tCall (spLg K) [] E0 (tCons (tVar 0) (tCons (tXf a cls d cNU "crowded" (tVar 3)) (tCons (tXf a cls d cNU "reserves" (tVar 3)) tNil)))))) (tAsg (tC (.str "shortage")) (gName 2)) tNext
section
variable {P : Program} {w : World} {K : PySem.W.Frag} {mg : Str → Option Value} {base : Heap}
set_option maxHeartbeats 8000000 in
theorem ok_ScN {f : Addr} {fd : FuncData} (F : Fun K "set_cut" "set_cut" sSc f fd)
    {cNU : Addr} {fiNU : Addr} {fdiNU : FuncData} (gNU : mg "NoUnbeaten" = some (.ref cNU)) (XNU : XF2 K cNU fiNU "crowded" "reserves") (GiNU : FnOk P w K mg base CX0 1 fiNU fdiNU ["self", "crowded", "reserves"] (spI2 cNU "crowded" "reserves")) (biNU : Binds K fdiNU ["self", "crowded", "reserves"] [])
    (m_int : mg "int" = none) (m_sum : mg "sum" = none) (m_zip : mg "zip" = none) (m_tuple : mg "tuple" = none) :
    FnOk P w K mg base (L2N.CX P w) 3 f fd ["instance", "spare", "routes", "inside"] (spSc K cNU) := by
  refine okN F scSc (fun vs H Q E h => ?_) (fun cdv A outer s H vs Q E hr h => ?_)
  · obtain ⟨i, sp, ro, ins, cs, gs, rvs, ss, rfl, _⟩ := h; rfl
  · obtain ⟨i, sp, ro, ins, cs, gs, rvs, ss, rfl, hI, ok, hSp, hRo, hR, hIns, hss, l6, q⟩ := h
    refine ⟨_, pss_cons (ps_setLc (i := 4) (own := [("route", 7)]) (g := gName 7) (tt := tYes) (te := tIf (tB (tIsN (tVar 7))) (tC (.int 0)) (tOp (rI0 fun i j => .int (i - j)) (tCB (fun xs H Q => (∃ i, xs = [.int i] ∧ Q (.int i) H) ∨ ∃ k, xs = [.bl k] ∧ Q (.int (if k then 1 else 0)) H) (tCons (tOp (rIn K false) (tOp (rIxT K) (tVar 7) (tC (.int 1))) (tVar 3)) tNil)) (tCB (fun xs H Q => (∃ i, xs = [.int i] ∧ Q (.int i) H) ∨ ∃ k, xs = [.bl k] ∧ Q (.int (if k then 1 else 0)) H) (tCons (tOp (rIn K false) (tOp (rIxT K) (tVar 7) (tC (.int 0))) (tVar 3)) tNil)))) rfl scSc.nd rfl rfl (sw_true rfl rfl rfl (by decide +kernel)) (pi_list (pv 2)) (blkOk_by (N := ["instance", "spare", "routes", "inside", "signs", "slack", "crowded", "route", "post", "posts", "count", "sign"]) (sc := defScope sSc) (by decide +kernel)) (fun _ _ _ _ _ => pg_name (i := 7) scSc.nd rfl (.inl rfl)) (fun _ _ _ _ _ => pts_nil) (fun _ _ _ _ _ => pe_ifExp (pt_cmp (pc_isN (pv 7))) (pe_int) (pe_op op_sub (pe_callTy call_int1 (by rfl) m_int (by decide +kernel) (pa_cons (pe_cmpR op_in_seq (pe_ix ix_tup (pv 7) (pe_int) (fun _ _ => rfl)) (pv 3) (by rfl)) pa_nil)) (pe_callTy call_int1 (by rfl) m_int (by decide +kernel) (pa_cons (pe_cmpR op_in_seq (pe_ix ix_tup (pv 7) (pe_int) (fun _ _ => rfl)) (pv 3) (by rfl)) pa_nil)))))
      (pss_cons (ps_set (i := 5) scSc.nd rfl (.inl rfl) (pe_callB (cr_sum rfl) (by rfl) m_sum (by decide +kernel) (pa_cons (pe_lc (own := [("post", 8)]) (g := gName 8) (tt := tYes) (te := tOp (rIxL K) (tVar 1) (tVar 8)) rfl scSc.nd (pi_tup (pv 3)) (blkOk_by (N := ["instance", "spare", "routes", "inside", "signs", "slack", "crowded", "route", "post", "posts", "count", "sign"]) (sc := defScope sSc) (by decide +kernel)) (fun _ _ _ _ _ => pg_name (i := 8) scSc.nd rfl (.inl rfl)) (fun _ _ _ _ _ => pts_nil) (fun _ _ _ _ _ => pe_ix ix_list (pv 1) (pv 8) (fun _ _ => rfl))) pa_nil)))
      (pss_cons (ps_aug (i := 5) scSc.nd rfl (.inl rfl) (pe_callB (cr_sum rfl) (by rfl) m_sum (by decide +kernel) (pa_cons (pe_lc (own := [("posts", 9), ("count", 10), ("sign", 11)]) (g := gTup K 2 (gCons (gTup K 2 (gCons (gName 9) (gCons (gName 10) gNil))) (gCons (gName 11) gNil))) (tt := tTest (tOp (rI0 fun i j => .bl (decide (i < j))) (tVar 11) (tC (.int 0)))) (te := tVar 10) rfl scSc.nd (pi_zipN (by rfl) m_zip (pa_cons (pe_ix ix_tup (pv 0) (pe_int) (fun _ _ => rfl)) (pa_cons (pv 4) pa_nil))) (blkOk_by (N := ["instance", "spare", "routes", "inside", "signs", "slack", "crowded", "route", "post", "posts", "count", "sign"]) (sc := defScope sSc) (by decide +kernel)) (fun _ _ _ _ _ => pg_tup rfl (pgs_cons (pg_tup rfl (pgs_cons (pg_name (i := 9) scSc.nd rfl (.inl rfl)) (pgs_cons (pg_name (i := 10) scSc.nd rfl (.inl rfl)) pgs_nil))) (pgs_cons (pg_name (i := 11) scSc.nd rfl (.inl rfl)) pgs_nil))) (fun _ _ _ _ _ => pts_one (pt_cmpR op_lt (pv 11) (pe_int) (nomark _))) (fun _ _ _ _ _ => pv 10)) pa_nil)) ip_add)
      (pss_cons (ps_if (pt_cmpR op_lt (pv 5) (pe_int) (nomark _))
        (pss_cons (ps_set (i := 6) scSc.nd rfl (.inl rfl) (pe_callTy call_tupQ (by rfl) m_tuple (by decide +kernel) (pa_cons (pe_lc (own := [("post", 8)]) (g := gName 8) (tt := tTest (tOp (rI0 fun i j => .bl (decide (i < j))) (tOp (rIxL K) (tVar 1) (tVar 8)) (tC (.int 0)))) (te := tVar 8) rfl scSc.nd (pi_tup (pv 3)) (blkOk_by (N := ["instance", "spare", "routes", "inside", "signs", "slack", "crowded", "route", "post", "posts", "count", "sign"]) (sc := defScope sSc) (by decide +kernel)) (fun _ _ _ _ _ => pg_name (i := 8) scSc.nd rfl (.inl rfl)) (fun _ _ _ _ _ => pts_one (pt_cmpR op_lt (pe_ix ix_list (pv 1) (pv 8) (fun _ _ => rfl)) (pe_int) (nomark _))) (fun _ _ _ _ _ => pv 8)) pa_nil)))
        (pss_one (L2N.ps_raise rfl (L2N.takes_of rfl rfl rfl rfl) (pmk_oexN XNU.T XNU.iC XNU.tI GiNU (hr.mono (by omega)) biNU .nil pass0 (by rfl) gNU (pa_cons (pv 6) (pa_cons (pe_callTy call_tupQ (by rfl) m_tuple (by decide +kernel) (pa_cons (pe_lc (own := [("post", 8)]) (g := gName 8) (tt := tTest (tOp (rI0 fun i j => .bl (decide (j < i))) (tOp (rIxL K) (tVar 1) (tVar 8)) (tC (.int 0)))) (te := tVar 8) rfl scSc.nd (pi_tup (pv 3)) (blkOk_by (N := ["instance", "spare", "routes", "inside", "signs", "slack", "crowded", "route", "post", "posts", "count", "sign"]) (sc := defScope sSc) (by decide +kernel)) (fun _ _ _ _ _ => pg_name (i := 8) scSc.nd rfl (.inl rfl)) (fun _ _ _ _ _ => pts_one (pt_cmpR op_gt (pe_ix ix_list (pv 1) (pv 8) (fun _ _ => rfl)) (pe_int) (nomark _))) (fun _ _ _ _ _ => pv 8)) pa_nil)) pa_nil)))))) pss_nil)
      (pss_one (ps_ret (pe_tup (pa_cons (pv 5) (pa_cons (pv 4) pa_nil)))))))), ?_⟩
    obtain ⟨_, ca, ga, xs, e, hi, hc, hgt, hgs⟩ := inst_open hI
    cases e
    have lx := DpAll.len hgs
    rw [List.length_map] at lx
    have h10 := ok.g10
    have hsN : ∀ p ∈ ss, ∃ pn : Nat, p = pn ∧ pn < cs.length := fun p hp => by
      rw [← subs_is (nz_nodup cs gs) hss] at hp
      have := nz_mem.mp (List.mem_filter.mp hp).1
      exact ⟨p.toNat, by omega, by omega⟩
    have lrs := hR.1
    rw [List.length_map] at lrs
    -- signs
    refine ⟨.ref ro, rfl, ro, rfl, ⟨_, SqL.of hRo⟩, fun D nD => lc_it (walk_list (K := K) (a := ro) (xs := rvs))
      (LcP H D (gs.map (routeOf cs gs)) (fun r => some (.int (sg (mem ss) r)))) (.start nD) (fun j H2 _ h => SqL.of (h.1 _ _ hRo)) ?_ ?_⟩
    · rintro j v H2 H3 hlt hL ⟨rfl, hv⟩
      have hv : rvs[j]? = some v := hv
      obtain ⟨r, hr, hrt⟩ := RtAll.at hR hv
      cases r with
      | none =>
        obtain rfl : v = .non := hrt
        exact ⟨rfl, .non, rfl, _, rfl, iteTT (by simp) (hL.yes nD (Same.refl _) hr rfl (by omega))⟩
      | some r =>
        obtain ⟨T, rfl, hT⟩ := hrt
        have hI3 := sqS hL.1 hIns
        refine ⟨rfl, .ref T, rfl, _, rfl, iteFF (by simp) ⟨.ref T, rfl, T, _, 1, oV r.2, rfl, rfl, sqS hL.1 hT, atI_nat (j := 1) rfl, .ref ins, rfl, ins, _, rfl, .inr hI3, by cases r.2 <;> rfl, flat_ints _, .inr ⟨_, rfl, ?_⟩⟩⟩
        refine ⟨.ref T, rfl, T, _, 0, .int r.1, rfl, rfl, sqS hL.1 hT, atI_nat (j := 0) rfl, .ref ins, rfl, ins, _, rfl, .inr hI3, rfl, flat_ints _, .inr ⟨_, rfl, _, _, rfl, rfl, hL.yes nD (Same.refl _) hr (by rw [sg_val]; rfl) (by omega)⟩⟩
    rintro H2 hL
    have e2 := hL.done (Nat.le_of_eq hR.1.symm)
    have em : (gs.map (routeOf cs gs)).filterMap (fun r => some (V.int (sg (mem ss) r))) = ((gs.map (routeOf cs gs)).map (sg (mem ss))).map V.int := fm_mapI _ _
    rw [em] at e2
    have s2 := hL.1
    -- the sum of spare places
    refine ⟨.ref ins, rfl, ins, rfl, ⟨_, sqS s2 hIns⟩, fun D2 nD2 => lc_it (walk_tup (K := K) (a := ins) (xs := ss.map V.int))
      (LcP H2 D2 ss (fun p => some (.int (spOf cs gs p)))) (.start nD2) (fun j H3 _ h => sqS (s2.trans h.1) hIns) ?_ ?_⟩
    · rintro j v H3 H4 hlt hM ⟨rfl, hv⟩
      have hv : (ss.map V.int)[j]? = some v := hv
      rw [List.getElem?_map] at hv
      obtain ⟨p, hp, rfl⟩ := Option.map_eq_some_iff.mp hv
      obtain ⟨pn, rfl, hpn⟩ := hsN p (List.mem_of_getElem? hp)
      rw [List.length_map] at hlt
      exact ⟨rfl, .ref sp, rfl, .int (pn : Nat), rfl, sp, _, _, _, rfl, rfl, SqL.of ((s2.trans hM.1) _ _ hSp), atI_nat (atS (by rw [spareL_len]; exact hpn)), hM.yes nD2 (Same.refl _) hp (by rw [spareL_at hpn]) (by omega)⟩
    rintro H3 hM
    have e3 := hM.done (by rw [List.length_map]; exact Nat.le_refl _)
    have em3 : ss.filterMap (fun p => some (V.int (spOf cs gs p))) = (ss.map (spOf cs gs)).map V.int := by rw [fm_map, List.map_map]; rfl
    rw [em3] at e3
    have s3 := s2.trans hM.1
    have eD3 := hM.1 _ _ e2
    refine ⟨D2, _, rfl, SqL.of e3, ?_⟩
    -- the counts of those who leave
    refine ⟨_, rfl, .ref i, rfl, i, _, 1, .ref ga, rfl, rfl, sqS s3 hi, atI_nat (j := 1) rfl, .ref D, rfl, ga, D, _, _, rfl, sqS s3 hgt, SqL.of eD3, fun D3 nD3 => lc_it (walk_zipN (K := K) (a := ga) (b := D) (xs := xs) (ys := ((gs.map (routeOf cs gs)).map (sg (mem ss))).map V.int) rfl)
      (LcP H3 D3 gs (fun g => if decide (sg (mem ss) (routeOf cs gs g) < 0) = true then some (.int g.2) else none)) (.start nD3) (fun j H4 _ h => ⟨sqS (s3.trans h.1) hgt, SqL.of (h.1 _ _ eD3)⟩) ?_ ?_⟩
    · rintro j v H4 H5 hlt hN ⟨T, x, y, rfl, nT, rfl, ex, ey⟩
      have hj : j < gs.length := by omega
      have hg : gs[j]? = some gs[j] := List.getElem?_eq_getElem hj
      obtain ⟨gA, pA, hx, hG, hP⟩ := grp_at hgs hg
      have ex : xs[j]? = some x := ex
      rw [hx] at ex
      cases ex
      have ey : (((gs.map (routeOf cs gs)).map (sg (mem ss))).map V.int)[j]? = some y := ey
      rw [List.getElem?_map, List.getElem?_map, List.getElem?_map, hg] at ey
      cases ey
      have sT := sameNew (o := .tup [.ref gA, .int (sg (mem ss) (routeOf cs gs gs[j]))]) nT
      refine ⟨T, _, rfl, SqT.of upd_same, rfl, _, _, rfl, gA, _, rfl, sqS (s3.trans (hN.1.trans sT)) hG, rfl, _, _, rfl, _, _, rfl, rfl, _, _, rfl, rfl, rfl, .int (sg (mem ss) (routeOf cs gs gs[j])), rfl, _, _, rfl, rfl, _, rfl, ite2 (fun h1 => ?_) (fun h1 => ?_)⟩
      · exact ⟨.int gs[j].2, rfl, hN.yes nD3 sT hg (if_pos h1) (by omega)⟩
      · exact hN.no sT hg (if_neg h1)
    rintro H4 hN
    have e4 := hN.done (by rw [List.length_map, List.length_map, List.length_map]; omega)
    have em4 : gs.filterMap (fun g => if decide (sg (mem ss) (routeOf cs gs g) < 0) = true then some (V.int g.2) else none) = ((gs.filter (fun g => decide (sg (mem ss) (routeOf cs gs g) < 0))).map (fun g => g.2)).map V.int := by rw [fm_filter, List.map_map]; rfl
    rw [em4] at e4
    have s4 := s3.trans hN.1
    have eD4 := hN.1 _ _ eD3
    refine ⟨D3, _, rfl, SqL.of e4, _, _, rfl, rfl, ?_⟩
    dsimp only
    rw [← FS0 hss]
    refine ⟨_, rfl, _, _, rfl, rfl, _, rfl, ite2 (fun h1 => ?_) (fun h1 => ?_)⟩
    · have h1 : FS (nzP cs gs) (spOf cs gs) (mem ss) (es0 cs gs) < 0 := by simpa using h1
      have pick : ∀ (f : Int → Bool) (Hx : Hp), Same H Hx → ∀ (j : Nat) (v : V), (ss.map V.int)[j]? = some v → ∃ (pn : Nat), v = .int pn ∧ ss[j]? = some (pn : Int) ∧ ∃ h : pn < (spareL cs gs).length, (spareL cs gs)[pn] = spOf cs gs pn := by
        intro f Hx s j v hv
        rw [List.getElem?_map] at hv
        obtain ⟨p, hp, rfl⟩ := Option.map_eq_some_iff.mp hv
        obtain ⟨pn, rfl, hpn⟩ := hsN p (List.mem_of_getElem? hp)
        exact ⟨pn, rfl, hp, by rw [spareL_len]; exact hpn, spareL_at hpn⟩
      refine ⟨.ref ins, rfl, ins, rfl, ⟨_, sqS s4 hIns⟩, fun D5 nD5 => lc_it (walk_tup (K := K) (a := ins) (xs := ss.map V.int))
        (LcP H4 D5 ss (fun p => if decide (spOf cs gs p < 0) = true then some (.int p) else none)) (.start nD5) (fun j H5 _ h => sqS (s4.trans h.1) hIns) ?_ ?_⟩
      · rintro j v H5 H6 hlt hO ⟨rfl, hv⟩
        obtain ⟨pn, rfl, hp, hpl, hpe⟩ := pick (fun _ => true) _ (s4.trans hO.1) j v hv
        rw [List.length_map] at hlt
        refine ⟨rfl, .ref sp, rfl, .int (pn : Nat), rfl, sp, _, _, _, rfl, rfl, SqL.of ((s4.trans hO.1) _ _ hSp), atI_nat (atS hpl), _, _, rfl, rfl, _, rfl, ?_⟩
        rw [hpe]
        refine ite2 (fun h2 => ?_) (fun h2 => ?_)
        · exact ⟨_, rfl, hO.yes nD5 (Same.refl _) hp (if_pos h2) (by omega)⟩
        · exact hO.no (Same.refl _) hp (if_neg h2)
      rintro H5 hO
      have e5 := hO.done (by rw [List.length_map]; exact Nat.le_refl _)
      rw [fm_filter] at e5
      refine ⟨D5, _, rfl, .inl ⟨SqL.of e5, fun Ct nCt => ?_⟩⟩
      have sCt := sameNew (o := .tup ((ss.filter (fun p => decide (spOf cs gs p < 0))).map V.int)) nCt
      have s5 := s4.trans (hO.1.trans sCt)
      have hCt : SqT K _ Ct ((ss.filter (fun p => decide (spOf cs gs p < 0))).map V.int) := SqT.of (upd_same (H := H5))
      generalize upd H5 Ct (.tup ((ss.filter (fun p => decide (spOf cs gs p < 0))).map V.int)) = H6 at s5 hCt
      refine ⟨.ref Ct, rfl, .ref ins, rfl, ins, rfl, ⟨_, sqS s5 hIns⟩, fun D6 nD6 => lc_it (walk_tup (K := K) (a := ins) (xs := ss.map V.int))
        (LcP H6 D6 ss (fun p => if decide (0 < spOf cs gs p) = true then some (.int p) else none)) (.start nD6) (fun j H7 _ h => sqS (s5.trans h.1) hIns) ?_ ?_⟩
      · rintro j v H7 H8 hlt hO6 ⟨rfl, hv⟩
        obtain ⟨pn, rfl, hp, hpl, hpe⟩ := pick (fun _ => true) _ (s5.trans hO6.1) j v hv
        rw [List.length_map] at hlt
        refine ⟨rfl, .ref sp, rfl, .int (pn : Nat), rfl, sp, _, _, _, rfl, rfl, SqL.of ((s5.trans hO6.1) _ _ hSp), atI_nat (atS hpl), _, _, rfl, rfl, _, rfl, ?_⟩
        rw [hpe]
        refine ite2 (fun h2 => ?_) (fun h2 => ?_)
        · exact ⟨_, rfl, hO6.yes nD6 (Same.refl _) hp (if_pos h2) (by omega)⟩
        · exact hO6.no (Same.refl _) hp (if_neg h2)
      rintro H7 hO6
      have e7 := hO6.done (by rw [List.length_map]; exact Nat.le_refl _)
      rw [fm_filter] at e7
      refine ⟨D6, _, rfl, .inl ⟨SqL.of e7, fun Rt nRt => ?_⟩⟩
      have sRt := sameNew (o := .tup ((ss.filter (fun p => decide (0 < spOf cs gs p))).map V.int)) nRt
      exact mkO2 fun d nd => q.2 h1 _ d Ct Rt (s5.trans (hO6.1.trans sRt)) nd ⟨Ct, rfl, sqS (hO6.1.trans sRt) hCt⟩ ⟨Rt, rfl, SqT.of upd_same⟩
    · have h1 : 0 ≤ FS (nzP cs gs) (spOf cs gs) (mem ss) (es0 cs gs) := by simp at h1; omega
      refine ⟨_, rfl, .ref D, rfl, (show (2 : Nat) ≤ sizeLine by decide), fun T nT => ?_⟩
      have sT := sameNew (o := .tup [.int (FS (nzP cs gs) (spOf cs gs) (mem ss) (es0 cs gs)), .ref D]) nT
      exact q.1 h1 _ T D (s4.trans sT) upd_same (sT _ _ eD4) nD
set_option maxHeartbeats 16000000 in
theorem ok_FcN {f fGr fDm fSs fAs fSc : Addr} {fd fdGr fdDm fdSs fdAs fdSc : FuncData} (F : Fun K "find_cuts" "find_cuts" sFc f fd)
    (FGr : Fun K "group_routes" "group_routes" sGr fGr fdGr) (bGr : Binds K fdGr ["instance"] []) (gGr : mg "group_routes" = some (.ref fGr)) (GGr : FnOk P w K mg base CX0 5 fGr fdGr ["instance"] (spGr K))
    (FDm : Fun K "demands" "demands" sDem fDm fdDm) (bDm : Binds K fdDm ["instance"] []) (gDm : mg "demands" = some (.ref fDm)) (GDm : FnOk P w K mg base CX0 1 fDm fdDm ["instance"] (spVec K rDem))
    (FSs : Fun K "starting_signs" "starting_signs" sSs fSs fdSs) (bSs : Binds K fdSs ["routes", "post"] []) (gSs : mg "starting_signs" = some (.ref fSs)) (GSs : FnOk P w K mg base CX0 1 fSs fdSs ["routes", "post"] (spSs K))
    (FAs : Fun K "all_subsets" "all_subsets" sAs fAs fdAs) (bAs : Binds K fdAs ["posts"] []) (gAs : mg "all_subsets" = some (.ref fAs)) (GAs : FnOk P w K mg base CX0 1 fAs fdAs ["posts"] (spAs K))
    (FSc : Fun K "set_cut" "set_cut" sSc fSc fdSc) (bSc : Binds K fdSc ["instance", "spare", "routes", "inside"] []) (gSc : mg "set_cut" = some (.ref fSc)) (GSc : FnOk P w K mg base (L2N.CX P w) 3 fSc fdSc ["instance", "spare", "routes", "inside"] (spSc K cNU))
    (m_zip : mg "zip" = none) (m_enumerate : mg "enumerate" = none) (m_list : mg "list" = none) :
    FnOk P w K mg base (L2N.CX P w) 6 f fd ["instance"] (spFc K cNU) := by
  refine okN F scFc (fun vs H Q E h => ?_) (fun cdv A outer s H vs Q E hr h => ?_)
  · obtain ⟨i, cs, gs, rfl, _⟩ := h; rfl
  · obtain ⟨i, cs, gs, rfl, hI, ok, q⟩ := h
    refine ⟨_, pss_cons (ps_set (i := 1) scFc.nd rfl (.inr rfl) (pe_call GGr (hr.mono (by omega)) (by rfl) gGr FGr.kp bGr .nil pass0 (pa_cons (pv 0) pa_nil)))
      (pss_cons (ps_setLc (i := 2) (own := [("capacity", 6), ("demand", 7)]) (g := gTup K 2 (gCons (gName 6) (gCons (gName 7) gNil))) (tt := tYes) (te := tOp (rI0 fun i j => .int (i - j)) (tVar 6) (tVar 7)) rfl scFc.nd rfl rfl (sw_true rfl rfl rfl (by decide +kernel)) (RZ.pi_zipA (by rfl) m_zip (pa_cons (pe_ix ix_tup (pv 0) (pe_int) (fun _ _ => rfl)) (pa_cons (pe_call GDm (hr.mono (by omega)) (by rfl) gDm FDm.kp bDm .nil pass0 (pa_cons (pv 0) pa_nil)) pa_nil))) (blkOk_by (N := ["instance", "routes", "spare", "cuts", "inside", "rows", "capacity", "demand", "route", "post", "left", "slack", "signs"]) (sc := defScope sFc) (by decide +kernel)) (fun _ _ _ _ _ => pg_tup rfl (pgs_cons (pg_name (i := 6) scFc.nd rfl (.inl rfl)) (pgs_cons (pg_name (i := 7) scFc.nd rfl (.inl rfl)) pgs_nil))) (fun _ _ _ _ _ => pts_nil) (fun _ _ _ _ _ => pe_op op_sub (pv 6) (pv 7)))
      (pss_cons (ps_set (i := 3) scFc.nd rfl (.inl rfl) (pe_lst (pa_cons (pe_tup (pa_cons (pe_int) (pa_cons (pe_lc (own := [("route", 8)]) (g := gName 8) (tt := tYes) (te := tIf (tB (tIsN (tVar 8))) (tC (.int 1)) (tC (.int 0))) rfl scFc.nd (pi_list (pv 1)) (blkOk_by (N := ["instance", "routes", "spare", "cuts", "inside", "rows", "capacity", "demand", "route", "post", "left", "slack", "signs"]) (sc := defScope sFc) (by decide +kernel)) (fun _ _ _ _ _ => pg_name (i := 8) scFc.nd rfl (.inl rfl)) (fun _ _ _ _ _ => pts_nil) (fun _ _ _ _ _ => pe_ifExp (pt_cmp (pc_isN (pv 8))) (pe_int) (pe_int))) pa_nil))) pa_nil)))
      (pss_cons (ps_expr (pe_bm PySem.F.plainAttrs_list PySem.F.slot_list_extend PySem.F.type_list_extend mt_extend (pv 3) (pa_cons (pe_lc (own := [("post", 9), ("left", 10)]) (g := gTup K 2 (gCons (gName 9) (gCons (gName 10) gNil))) (tt := tTest (tOp (rI0 fun i j => .bl (decide (i < j))) (tVar 10) (tC (.int 0)))) (te := tTup (tCons (tUn (rU fun i => .int (-i)) (tVar 10)) (tCons (tCall (spSs K) [] E0 (tCons (tVar 1) (tCons (tVar 9) tNil))) tNil))) rfl scFc.nd (pi_enum (by rfl) m_enumerate (pa_cons (pv 2) pa_nil)) (blkOk_by (N := ["instance", "routes", "spare", "cuts", "inside", "rows", "capacity", "demand", "route", "post", "left", "slack", "signs"]) (sc := defScope sFc) (by decide +kernel)) (fun _ _ _ _ _ => pg_tup rfl (pgs_cons (pg_name (i := 9) scFc.nd rfl (.inl rfl)) (pgs_cons (pg_name (i := 10) scFc.nd rfl (.inl rfl)) pgs_nil))) (fun _ _ _ _ _ => pts_one (pt_cmpR op_lt (pv 10) (pe_int) (nomark _))) (fun _ _ _ _ _ => pe_tup (pa_cons (pe_un un_neg (pv 10)) (pa_cons (pe_call GSs (hr.mono (by omega)) (by rfl) gSs FSs.kp bSs .nil pass0 (pa_cons (pv 1) (pa_cons (pv 9) pa_nil))) pa_nil)))) pa_nil)))
      (pss_cons (ps_for (passes_of rfl) rfl (pi_list (pe_call GAs (hr.mono (by omega)) (by rfl) gAs FAs.kp bAs .nil pass0 (pa_cons (pe_lc (own := [("post", 9), ("left", 10)]) (g := gTup K 2 (gCons (gName 9) (gCons (gName 10) gNil))) (tt := tTest (tOp rNe (tVar 10) (tC (.int 0)))) (te := tVar 9) rfl scFc.nd (pi_enum (by rfl) m_enumerate (pa_cons (pv 2) pa_nil)) (blkOk_by (N := ["instance", "routes", "spare", "cuts", "inside", "rows", "capacity", "demand", "route", "post", "left", "slack", "signs"]) (sc := defScope sFc) (by decide +kernel)) (fun _ _ _ _ _ => pg_tup rfl (pgs_cons (pg_name (i := 9) scFc.nd rfl (.inl rfl)) (pgs_cons (pg_name (i := 10) scFc.nd rfl (.inl rfl)) pgs_nil))) (fun _ _ _ _ _ => pts_one (pt_cmpR op_ne (pv 10) (pe_int) (nomark _))) (fun _ _ _ _ _ => pv 9)) pa_nil))) (pg_name (i := 4) scFc.nd rfl (.inl rfl))
        (pss_one (ps_expr (pe_bm PySem.F.plainAttrs_list PySem.F.slot_list_append PySem.F.type_list_append mt_append (pv 3) (pa_cons (pe_callS GSc (hr.mono (by omega)) rfl gSc FSc.kp bSc (fun σ => L2N.passAt (L2N.takes_of rfl rfl rfl rfl) σ) (pa_cons (pv 0) (pa_cons (pv 2) (pa_cons (pv 1) (pa_cons (pv 4) pa_nil))))) pa_nil)))))
      (pss_cons (ps_setLc (i := 5) (own := [("slack", 11), ("signs", 12)]) (g := gTup K 2 (gCons (gName 11) (gCons (gName 12) gNil))) (tt := tYes) (te := tVar 12) rfl scFc.nd rfl rfl (sw_true rfl rfl rfl (by decide +kernel)) (pi_list (pv 3)) (blkOk_by (N := ["instance", "routes", "spare", "cuts", "inside", "rows", "capacity", "demand", "route", "post", "left", "slack", "signs"]) (sc := defScope sFc) (by decide +kernel)) (fun _ _ _ _ _ => pg_tup rfl (pgs_cons (pg_name (i := 11) scFc.nd rfl (.inl rfl)) (pgs_cons (pg_name (i := 12) scFc.nd rfl (.inl rfl)) pgs_nil))) (fun _ _ _ _ _ => pts_nil) (fun _ _ _ _ _ => pv 12))
      (pss_one (ps_ret (pe_tup (pa_cons (pe_lc (own := [("slack", 11), ("signs", 12)]) (g := gTup K 2 (gCons (gName 11) (gCons (gName 12) gNil))) (tt := tYes) (te := tVar 11) rfl scFc.nd (pi_list (pv 3)) (blkOk_by (N := ["instance", "routes", "spare", "cuts", "inside", "rows", "capacity", "demand", "route", "post", "left", "slack", "signs"]) (sc := defScope sFc) (by decide +kernel)) (fun _ _ _ _ _ => pg_tup rfl (pgs_cons (pg_name (i := 11) scFc.nd rfl (.inl rfl)) (pgs_cons (pg_name (i := 12) scFc.nd rfl (.inl rfl)) pgs_nil))) (fun _ _ _ _ _ => pts_nil) (fun _ _ _ _ _ => pv 11)) (pa_cons (pe_listZ rfl (by rfl) m_list (by rfl) m_zip (pv 5)) pa_nil)))))))))), ?_⟩
    obtain ⟨_, ca, ga, xs, e, hi, hc, hgt, hgs⟩ := inst_open hI
    cases e
    have h6 := ok.c6
    have h10 := ok.g10
    have hdl := rDem_len cs gs
    -- routes
    refine ⟨.ref i, rfl, i, cs, gs, rfl, hI, ok, fun H1 Ro rvs s1 eRo hR _ => ?_⟩
    have lrs := hR.1
    rw [List.length_map] at lrs
    -- spare
    refine ⟨.ref i, rfl, i, _, 0, .ref ca, rfl, rfl, sqS s1 hi, atI_nat (j := 0) rfl, .ref i, rfl, i, cs, gs, rfl, (TupK.of s1).dp _ _ (to_dInst _ _) hI, ok, fun H2 dm s2 hdm => ?_⟩
    obtain ⟨_, e, hdm⟩ := dI_ref hdm
    cases e
    have s02 := s1.trans s2
    refine ⟨ca, dm, _, _, rfl, .inr ⟨sqS s02 hc, hdm, fun Sp nSp => lc_it (walk_zipT (K := K) (a := ca) (b := dm) (xs := cs.map V.int) (ys := (rDem cs gs).map V.int) rfl)
      (LcP H2 Sp (cs.zip (rDem cs gs)) (fun z => some (.int (z.1 - z.2)))) (.start nSp) (fun j H3 _ h => ⟨sqS (s02.trans h.1) hc, sqS h.1 hdm⟩) ?_ ?_⟩⟩
    · rintro j v H3 H4 hlt hL ⟨T, x, y, rfl, nT, rfl, ex, ey⟩
      rw [List.length_map, List.length_map] at hlt
      have hj1 : j < cs.length := by omega
      have hj2 : j < (rDem cs gs).length := by omega
      have ex : (cs.map V.int)[j]? = some x := ex
      have ey : ((rDem cs gs).map V.int)[j]? = some y := ey
      rw [atS hj1] at ex
      rw [atS hj2] at ey
      cases ex
      cases ey
      have hz : (cs.zip (rDem cs gs))[j]? = some (cs[j], (rDem cs gs)[j]) := by rw [List.getElem?_zip_eq_some]; exact ⟨List.getElem?_eq_getElem hj1, List.getElem?_eq_getElem hj2⟩
      exact ⟨T, _, rfl, SqT.of upd_same, rfl, _, _, rfl, _, _, rfl, rfl, rfl, .int cs[j], rfl, .int (rDem cs gs)[j], rfl, _, _, rfl, rfl, hL.yes nSp (sameNew nT) hz rfl (by omega)⟩
    rintro H3 hL
    have eSp := hL.done (by rw [List.length_zip, List.length_map, List.length_map]; exact Nat.le_refl _)
    rw [fm_mapI] at eSp
    change H3 Sp = some (.lst ((spareL cs gs).map V.int)) at eSp
    have s03 := s02.trans hL.1
    have eRo3 := (s2.trans hL.1) _ _ eRo
    have hR3 := hR.tk (.of (s2.trans hL.1))
    have hsl := spareL_len cs gs
    -- the first cut
    refine ⟨.ref Ro, rfl, Ro, rfl, ⟨_, SqL.of eRo3⟩, fun D0 nD0 => lc_it (walk_list (K := K) (a := Ro) (xs := rvs))
      (LcP H3 D0 (gs.map (routeOf cs gs)) (fun r => some (.int (zSg r)))) (.start nD0) (fun j H4 _ h => SqL.of (h.1 _ _ eRo3)) ?_ ?_⟩
    · rintro j v H4 H5 hlt hM ⟨rfl, hv⟩
      have hv : rvs[j]? = some v := hv
      obtain ⟨r, hr, hrt⟩ := RtAll.at hR3 hv
      cases r with
      | none =>
        obtain rfl : v = .non := hrt
        exact ⟨rfl, .non, rfl, _, rfl, iteTT (by simp) (hM.yes nD0 (Same.refl _) hr rfl (by omega))⟩
      | some r =>
        obtain ⟨T, rfl, hT⟩ := hrt
        exact ⟨rfl, .ref T, rfl, _, rfl, iteFF (by simp) (hM.yes nD0 (Same.refl _) hr rfl (by omega))⟩
    rintro H4 hM
    have eD0 := hM.done (Nat.le_of_eq hR.1.symm)
    rw [fm_mapI] at eD0
    refine ⟨(show (2 : Nat) ≤ sizeLine by decide), fun T0 nT0 => ⟨(show (1 : Nat) ≤ sizeLine by decide), fun Cu nCu => ?_⟩⟩
    have sT0 := sameNew (o := .tup [.int 0, .ref D0]) nT0
    have sCu := sameNew (o := .lst [.ref T0]) nCu
    have s34 := hM.1.trans (sT0.trans sCu)
    have s05 := s03.trans s34
    have nD0C : D0 ≠ Cu := ne_of_none (sT0 _ _ eD0) nCu
    have fCu3 : H3 Cu = none := by
      cases e : H3 Cu with
      | none => rfl
      | some o => have := (hM.1.trans sT0) _ _ e; rw [nCu] at this; cases this
    have fCu : H Cu = none := by
      cases e : H Cu with
      | none => rfl
      | some o => have := s03 _ _ e; rw [fCu3] at this; cases this
    have cu0 : CuV (fun a => a = Cu) K (upd (upd H4 T0 (.tup [.int 0, .ref D0])) Cu (.lst [.ref T0])) (.ref T0) (0, (gs.map (routeOf cs gs)).map zSg) :=
      ⟨T0, D0, rfl, SqT.of (upNew nCu upd_same), nD0C, (sT0.trans sCu) _ _ eD0⟩
    have eCu : (upd (upd H4 T0 (.tup [.int 0, .ref D0])) Cu (.lst [.ref T0])) Cu = some (.lst [.ref T0]) := upd_same
    generalize upd (upd H4 T0 (.tup [.int 0, .ref D0])) Cu (.lst [.ref T0]) = H5 at s34 s05 cu0 eCu
    have eSp5 := s34 _ _ eSp
    have eRo5 := s34 _ _ eRo3
    have hR5 := hR3.tk (.of s34)
    -- the cuts of the crowded posts
    refine ⟨.ref Cu, rfl, .inl ⟨rfl, _, SqL.of eCu⟩, .ref Sp, rfl, Sp, _, rfl, SqL.of eSp5, fun D1 nD1 => lc_it (walk_enum (K := K) (a := Sp) (xs := (spareL cs gs).map V.int))
      (LcX (CuV (fun a => a = Cu ∨ a = D1) K) H5 D1 (List.range (spareL cs gs).length) (fun (k : Nat) => if decide ((spareL cs gs).getD k 0 < 0) = true then some (-(spareL cs gs).getD k 0, (gs.map (routeOf cs gs)).map (stSg (k : Int))) else none)) (.start nD1) (fun j H6 _ h => SqL.of (h.1 _ _ eSp5)) ?_ ?_⟩
    · rintro j v H6 H7 hlt hX ⟨T, x, y, rfl, nT, rfl, ex, ey⟩
      rw [List.length_map] at hlt
      cases ex
      have ey : ((spareL cs gs).map V.int)[j]? = some y := ey
      rw [atS hlt] at ey
      cases ey
      have hz : (List.range (spareL cs gs).length)[j]? = some j := List.getElem?_range hlt
      have hgd : (spareL cs gs).getD j 0 = (spareL cs gs)[j] := by rw [List.getD_eq_getElem?_getD, List.getElem?_eq_getElem hlt]; rfl
      have sT := sameNew (o := .tup [.int (j : Nat), .int (spareL cs gs)[j]]) nT
      have s67 := hX.1.trans sT
      refine ⟨T, _, rfl, SqT.of upd_same, rfl, _, _, rfl, _, _, rfl, rfl, rfl, .int (spareL cs gs)[j], rfl, _, _, rfl, rfl, _, rfl, ite2 (fun h1 => ?_) (fun h1 => ?_)⟩
      · refine ⟨.int (spareL cs gs)[j], rfl, _, rfl, .ref Ro, rfl, .int (j : Nat), rfl, Ro, rvs, _, (j : Nat), rfl, s67 _ _ eRo5, hR5.tk (.of s67), by rw [List.length_map]; omega, fun H8 qq s8 eq nq => ⟨(show (2 : Nat) ≤ sizeLine by decide), fun T2 nT2 => ?_⟩⟩
        have sT2 := sameNew (o := .tup [.int (-(spareL cs gs)[j]), .ref qq]) nT2
        obtain ⟨_, ws, eD1, _⟩ := id hX
        refine hX.yes (X := fun a => a = Cu ∨ a = D1) (fun _ _ _ _ l h => h.lx l) (.inr rfl) nD1 (sT.trans (s8.trans sT2)) hz (by rw [hgd, if_pos h1]) ⟨T2, qq, rfl, SqT.of upd_same, ?_, sT2 _ _ eq⟩ (by omega)
        rintro (z | z)
        · rw [z] at nq; have := s67 _ _ eCu; rw [nq] at this; cases this
        · rw [z] at nq; have := sT _ _ eD1; rw [nq] at this; cases this
      · exact hX.no (X := fun a => a = Cu ∨ a = D1) (fun _ _ _ _ l h => h.lx l) sT hz (by rw [hgd, if_neg h1])
    rintro H6 hX
    obtain ⟨ws, eD1, hws⟩ := hX.done (by rw [List.length_map, List.length_range]; exact Nat.le_refl _)
    have em1 : (List.range (spareL cs gs).length).filterMap (fun (k : Nat) => if decide ((spareL cs gs).getD k 0 < 0) = true then some (-(spareL cs gs).getD k 0, (gs.map (routeOf cs gs)).map (stSg (k : Int))) else none) = (rCro cs gs).map (fun p => (- spOf cs gs p, (gs.map (routeOf cs gs)).map (stSg p))) := by
      rw [cro_list, ← spare_posts cs gs (fun x => decide (x < 0)), List.map_filterMap]
      apply fmCongr
      intro k hk
      have hk := List.mem_range.mp hk
      have e : (spareL cs gs).getD k 0 = spOf cs gs k := by rw [List.getD_eq_getElem?_getD, List.getElem?_eq_getElem hk, Option.getD_some, spareL_at (by omega)]
      rw [e]
      split <;> rfl
    rw [em1] at hws
    have lC : (rCro cs gs).length ≤ 6 := by
      unfold rCro; exact Nat.le_trans (sel_len _ _ _) h6
    have lws : ws.length ≤ 6 := by rw [hws.1, List.length_map]; exact lC
    have eCu6 := hX.1 _ _ eCu
    refine ⟨Cu, D1, [.ref T0], ws, rfl, rfl, eCu6, eD1, small6 (by simp; omega), ?_⟩
    have l67 : LX (fun a => a = Cu) H6 (upd H6 Cu (.lst ([.ref T0] ++ ws))) := .put eCu6 rfl
    have s07 : Same H (upd H6 Cu (.lst ([.ref T0] ++ ws))) := samePut (s05.trans hX.1) fCu
    have l57 : LX (fun a => a = Cu) H5 (upd H6 Cu (.lst ([.ref T0] ++ ws))) := (LX.of hX.1).trans l67
    have eCu7 : (upd H6 Cu (.lst ([.ref T0] ++ ws))) Cu = some (.lst ([.ref T0] ++ ws)) := upd_same
    have cu7 : Rl (CuV (fun a => a = Cu) K (upd H6 Cu (.lst ([.ref T0] ++ ws)))) ([.ref T0] ++ ws) ([(0, (gs.map (routeOf cs gs)).map zSg)] ++ (rCro cs gs).map (fun p => (- spOf cs gs p, (gs.map (routeOf cs gs)).map (stSg p)))) := by
      refine Rl.app ⟨rfl, fun j v r h1 h2 => ?_⟩ (hws.mono fun v r h => (h.weak fun a z => .inl z).lx l67)
      cases j with
      | zero => cases h1; cases h2; exact cu0.lx l57
      | succ j => simp at h1
    have nRC : Ro ≠ Cu := ne_of_none eRo3 fCu3
    have nSC : Sp ≠ Cu := ne_of_none eSp fCu3
    have eSp7 := l57.ls _ _ eSp5 nSC
    have eRo7 := l57.ls _ _ eRo5 nRC
    have hR7 := hR5.tk l57.tk
    generalize upd H6 Cu (.lst ([.ref T0] ++ ws)) = H7 at s07 l57 eCu7 cu7 eSp7 eRo7 hR7 l67
    generalize hvs0 : [V.ref T0] ++ ws = vs0 at eCu7 cu7
    have lvs0 : vs0.length ≤ 7 := by rw [← hvs0]; simp; omega
    -- the sets of posts
    refine ⟨.ref Sp, rfl, Sp, _, rfl, SqL.of eSp7, fun D2 nD2 => lc_it (walk_enum (K := K) (a := Sp) (xs := (spareL cs gs).map V.int))
      (LcP H7 D2 (List.range (spareL cs gs).length) (fun (k : Nat) => if (!decide ((spareL cs gs).getD k 0 = 0)) = true then some (.int (k : Nat)) else none)) (.start nD2) (fun j H8 _ h => SqL.of (h.1 _ _ eSp7)) ?_ ?_⟩
    · rintro j v H8 H9 hlt hY ⟨T, x, y, rfl, nT, rfl, ex, ey⟩
      rw [List.length_map] at hlt
      cases ex
      have ey : ((spareL cs gs).map V.int)[j]? = some y := ey
      rw [atS hlt] at ey
      cases ey
      have hz : (List.range (spareL cs gs).length)[j]? = some j := List.getElem?_range hlt
      have hgd : (spareL cs gs).getD j 0 = (spareL cs gs)[j] := by rw [List.getD_eq_getElem?_getD, List.getElem?_eq_getElem hlt]; rfl
      have sT := sameNew (o := .tup [.int (j : Nat), .int (spareL cs gs)[j]]) nT
      refine ⟨T, _, rfl, SqT.of upd_same, rfl, _, _, rfl, _, _, rfl, rfl, rfl, .int (spareL cs gs)[j], rfl, rfl, _, rfl, ?_⟩
      by_cases h1 : (spareL cs gs)[j] = 0
      · exact iteFF (by simp [h1]) (hY.no sT hz (by rw [hgd]; simp [h1]))
      · exact iteTT (by simp [h1]) ⟨.int (j : Nat), rfl, hY.yes nD2 sT hz (by rw [hgd]; simp [h1]) (by omega)⟩
    rintro H8 hY
    have eD2 := hY.done (by rw [List.length_map, List.length_range]; exact Nat.le_refl _)
    have em2 : (List.range (spareL cs gs).length).filterMap (fun (k : Nat) => if (!decide ((spareL cs gs).getD k 0 = 0)) = true then some (V.int (k : Nat)) else none) = (nzP cs gs).map V.int := by
      unfold nzP
      rw [← spare_posts cs gs (fun x => !decide (x = 0)), List.map_filterMap]
      apply fmCongr
      intro k _
      split <;> rfl
    rw [em2] at eD2
    have lN : (nzP cs gs).length ≤ 6 := by
      unfold nzP
      exact Nat.le_trans (List.length_filter_le _ _) (by rw [List.length_map, List.length_range]; exact h6)
    refine ⟨D2, _, rfl, eD2, lN, fun H9 As avs s89 eAs hAs lAs bAs fAs => ⟨As, rfl, ⟨_, SqL.of eAs⟩, ?_⟩⟩
    have s79 := hY.1.trans s89
    have eCu9 := s79 _ _ eCu7
    have nAC : As ≠ Cu := fun z => by rw [z] at fAs; have := hY.1 _ _ eCu7; rw [fAs] at this; cases this
    have eSp9 := s79 _ _ eSp7
    have eRo9 := s79 _ _ eRo7
    have hR9 := hR7.tk (.of s79)
    have cu9 := cu7.mono fun v r h => h.lx (.of s79)
    have s09 := s07.trans s79
    have hIat : ∀ {Hx : Hp}, Same H Hx → Dp K Hx (.ref i) (dInst cs gs) := fun s => (TupK.of s).dp _ _ (to_dInst _ _) hI
    refine for_it (walk_list (K := K) (a := As) (xs := avs))
      (fun j σ H10 => ∃ (y4 : Option V) (vs : List V), σ = [some (.ref i), some (.ref Ro), some (.ref Sp), some (.ref Cu), y4, none, none, none, none, none, none, none, none] ∧ LX (fun a => a = Cu) H9 H10 ∧ Same H H10 ∧ H10 Cu = some (.lst vs) ∧
        Rl (CuV (fun a => a = Cu) K H10) vs ([(0, (gs.map (routeOf cs gs)).map zSg)] ++ (rCro cs gs).map (fun p => (- spOf cs gs p, (gs.map (routeOf cs gs)).map (stSg p))) ++ ((subsL (nzP cs gs)).take j).map (fun s => (FS (nzP cs gs) (spOf cs gs) (mem s) (es0 cs gs), (gs.map (routeOf cs gs)).map (sg (mem s))))) ∧
        ∀ s ∈ (subsL (nzP cs gs)).take j, 0 ≤ FS (nzP cs gs) (spOf cs gs) (mem s) (es0 cs gs))
      ⟨none, vs0, rfl, .refl, s09, eCu9, by simpa using cu9, fun s h => (by simp at h)⟩ (fun j σ H10 _ h => by obtain ⟨_, _, _, l10, _⟩ := h; exact SqL.of (l10.ls _ _ eAs nAC)) ?_ ?_
    · rintro j v σ H10 H10' hlt ⟨y4, vs, rfl, l10, s010, e10, cu10, fs10⟩ ⟨rfl, hv⟩
      have hv : avs[j]? = some v := hv
      obtain ⟨ss, hss, Tn, rfl, hTn⟩ := hAs.at hv
      have hmem := List.mem_of_getElem? hss
      have lvs : vs.length ≤ 71 := by
        rw [cu10.1]
        simp only [List.length_append, List.length_map, List.length_take, List.length_cons, List.length_nil]
        omega
      refine ⟨.ref Cu, rfl, .inl ⟨rfl, _, SqL.of e10⟩, .ref i, rfl, .ref Sp, rfl, .ref Ro, rfl, .ref Tn, rfl, i, Sp, Ro, Tn, cs, gs, rvs, ss, rfl, hIat s010, ok, l10.ls _ _ eSp9 nSC, l10.ls _ _ eRo9 nRC, hR9.tk l10.tk, l10.tk.sq hTn, hmem, bAs ss hmem, fun h0 H11 T qq s11 eT eq nq => ?_, fun hneg H11 d ca' ra s11 nd hca hra => ?_⟩
      · have e11 := s11 _ _ e10
        have lp : LX (fun a => a = Cu) H11 (upd H11 Cu (.lst (vs ++ [.ref T]))) := .put e11 rfl
        have hq : qq ≠ Cu := fun z => by rw [z] at nq; rw [nq] at e10; cases e10
        refine ⟨Cu, vs, _, rfl, rfl, e11, small (by omega), _, vs ++ [.ref T], rfl, (l10.trans (.of s11)).trans lp, samePut (s010.trans s11) fCu, upd_same, ?_, fun s hs => ?_⟩
        · rw [take_snoc hss, List.map_append, ← List.append_assoc]
          exact Rl.snoc (cu10.mono fun v r h => h.lx ((LX.of s11).trans lp)) (CuV.lx ⟨T, qq, rfl, SqT.of eT, hq, eq⟩ lp)
        · rw [take_snoc hss] at hs
          rcases List.mem_append.mp hs with h | h
          · exact fs10 s h
          · simp at h; subst h; exact h0
      · exact q.2 ss hmem hneg _ d ca' ra (s010.trans s11) nd hca hra
    rintro σ H10 ⟨y4, vs, rfl, l10, s010, e10, cu10, fs10⟩
    rw [hAs.1, List.take_length] at cu10 fs10
    change Rl (CuV (fun a => a = Cu) K H10) vs (cutF cs gs) at cu10
    have Fe := feas0 ok fs10
    have lvs : vs.length ≤ 71 := by
      rw [cu10.1]
      unfold cutF
      simp only [List.length_append, List.length_map, List.length_cons, List.length_nil]
      rw [← hAs.1]; omega
    have lpos : 0 < (cutF cs gs).length := by unfold cutF; simp
    -- rows
    refine ⟨.ref Cu, rfl, Cu, rfl, ⟨_, SqL.of e10⟩, fun D5 nD5 => lc_it (walk_list (K := K) (a := Cu) (xs := vs))
      (LcX (QV (fun a => a = Cu ∨ a = D5)) H10 D5 (cutF cs gs) (fun c => some c.2)) (.start nD5) (fun j H11 _ h => SqL.of (h.1 _ _ e10)) ?_ ?_⟩
    · rintro j v H11 H12 hlt hL5 ⟨rfl, hv⟩
      have hv : vs[j]? = some v := hv
      obtain ⟨c, hc', T, qq, rfl, hT, nX, eq⟩ := cu10.at hv
      refine ⟨T, _, rfl, sqS hL5.1 hT, rfl, _, _, rfl, _, _, rfl, rfl, rfl, .ref qq, rfl, hL5.yes (X := fun a => a = Cu ∨ a = D5) (fun _ _ _ _ l h => h.lx l) (.inr rfl) nD5 (Same.refl _) hc' rfl ⟨qq, rfl, ?_, hL5.1 _ _ eq⟩ (by omega)⟩
      rintro (z | z)
      · exact nX z
      · rw [z] at eq; rw [nD5] at eq; cases eq
    rintro H11 hL5
    obtain ⟨rw5, eD5, hrw⟩ := hL5.done (Nat.le_of_eq cu10.1.symm)
    have em5 : (cutF cs gs).filterMap (fun c => some c.2) = (cutF cs gs).map (fun c => c.2) := by
      generalize cutF cs gs = l
      induction l with
      | nil => rfl
      | cons x l ih => simp [ih]
    rw [em5] at hrw
    have s011 := s010.trans hL5.1
    have e11 := hL5.1 _ _ e10
    have cu11 := cu10.mono fun v r h => h.lx (.of hL5.1)
    -- slacks
    refine ⟨.ref Cu, rfl, Cu, rfl, ⟨_, SqL.of e11⟩, fun D6 nD6 => lc_it (walk_list (K := K) (a := Cu) (xs := vs))
      (LcP H11 D6 (cutF cs gs) (fun c => some (.int c.1))) (.start nD6) (fun j H12 _ h => SqL.of (h.1 _ _ e11)) ?_ ?_⟩
    · rintro j v H12 H13 hlt hL6 ⟨rfl, hv⟩
      have hv : vs[j]? = some v := hv
      obtain ⟨c, hc', T, qq, rfl, hT, nX, eq⟩ := cu11.at hv
      exact ⟨T, _, rfl, sqS hL6.1 hT, rfl, _, _, rfl, _, _, rfl, rfl, rfl, .int c.1, rfl, hL6.yes nD6 (Same.refl _) hc' rfl (by omega)⟩
    rintro H12 hL6
    have eD6 := hL6.done (Nat.le_of_eq cu10.1.symm)
    rw [fm_mapI, cutF_slk] at eD6
    obtain ⟨rows, hvr, lrows, hrows⟩ := QV.rows (hrw.mono fun v r h => h.lx (.of hL6.1))
    rw [List.length_map] at lrows
    have eD5' := hL6.1 _ _ eD5
    rw [hvr] at eD5'
    refine ⟨.ref D5, rfl, D5, rows, (cutF cs gs).map (fun c => c.2.map V.int), gs.length, rfl, SqL.of eD5', by omega, by rw [lrows, ← cu10.1]; omega, by rw [List.length_map, lrows], ?_, by omega, ?_, fun H13 Ls ts s13 nLs eLs lts hts => ⟨(show (2 : Nat) ≤ sizeLine by decide), fun Tt nTt => ?_⟩⟩
    · intro ys hys
      obtain ⟨c, hc', rfl⟩ := List.mem_map.mp hys
      rw [List.length_map]; exact cutF_len hc'
    · intro k row ys hk hy
      rw [List.getElem?_map] at hy
      obtain ⟨c, hc', rfl⟩ := Option.map_eq_some_iff.mp hy
      exact SqL.of (hrows k row c.2 hk (by rw [List.getElem?_map, hc']; rfl))
    have sTt := sameNew (o := .tup [.ref D6, .ref Ls]) nTt
    refine q.1 Fe _ Tt D6 Ls (ts.map V.ref) ((s011.trans hL6.1).trans (s13.trans sTt)) (SqT.of upd_same) ((s13.trans sTt) _ _ eD6) (sTt _ _ eLs) ⟨by rw [List.length_map, List.length_map, lts], fun j v r h1 h2 => ?_⟩
    rw [List.getElem?_map] at h1 h2
    obtain ⟨T, hT, rfl⟩ := Option.map_eq_some_iff.mp h1
    obtain ⟨g, hg, rfl⟩ := Option.map_eq_some_iff.mp h2
    have hj := (List.getElem?_eq_some_iff.mp hg).1
    have hg' : g = gs[j] := by rw [List.getElem?_eq_getElem hj] at hg; exact (Option.some.inj hg).symm
    have hcol : colV ((cutF cs gs).map (fun c => c.2.map V.int)) j = (sgn (nzP cs gs) (rCro cs gs) (routeOf cs gs g)).map V.int := by
      rw [hg', ← cutF_sgn hj]
      unfold colV
      rw [List.map_map, List.map_map]
      apply List.map_congr_left
      intro c hc'
      have hl := cutF_len hc'
      simp only [Function.comp]
      rw [List.getD_eq_getElem?_getD, List.getD_eq_getElem?_getD, List.getElem?_map, List.getElem?_eq_getElem (by omega)]
      rfl
    refine ⟨T, rfl, SqT.of (sTt _ _ ?_)⟩
    rw [hts j T hT, hcol]
set_option maxHeartbeats 4000000 in
theorem ok_RrN {f fIg fFc fOr : Addr} {fd fdIg fdFc fdOr : FuncData} (F : Fun K "reserve_range" "reserve_range" sRr f fd)
    (FIg : Fun K "is_group" "is_group" sIg fIg fdIg) (bIg : Binds K fdIg ["instance", "value"] []) (gIg : mg "is_group" = some (.ref fIg)) (GIg : FnOk P w K mg base CX0 3 fIg fdIg ["instance", "value"] (spIg K))
    (FFc : Fun K "find_cuts" "find_cuts" sFc fFc fdFc) (bFc : Binds K fdFc ["instance"] []) (gFc : mg "find_cuts" = some (.ref fFc)) (GFc : FnOk P w K mg base (L2N.CX P w) 6 fFc fdFc ["instance"] (spFc K cNU))
    (FOr : Fun K "open_range" "open_range" sOr fOr fdOr) (bOr : Binds K fdOr ["slacks", "signs", "count"] []) (gOr : mg "open_range" = some (.ref fOr)) (GOr : FnOk P w K mg base CX0 1 fOr fdOr ["slacks", "signs", "count"] (spOr K))
     :
    FnOk P w K mg base (L2N.CX P w) 7 f fd ["instance", "group"] (spRr K cNU) := by
  refine okN F scRr (fun vs H Q E h => ?_) (fun cdv A outer s H vs Q E hr h => ?_)
  · obtain ⟨i, j, cs, gs, g, rfl, _⟩ := h; rfl
  · obtain ⟨i, j, cs, gs, g, rfl, hI, ok, hg, q⟩ := h
    refine ⟨_, pss_cons (ps_if (pt_not (pt_val (pe_call GIg (hr.mono (by omega)) (by rfl) gIg FIg.kp bIg .nil pass0 (pa_cons (pv 0) (pa_cons (pv 1) pa_nil)))))
        (pss_one (ps_never)) pss_nil)
      (pss_cons (ps_asg (pe_callS GFc (hr.mono (by omega)) rfl gFc FFc.kp bFc (fun σ => L2N.passAt (L2N.takes_of rfl rfl rfl rfl) σ) (pa_cons (pv 0) pa_nil)) (pg_tup rfl (pgs_cons (pg_name (i := 2) scRr.nd rfl (.inl rfl)) (pgs_cons (pg_name (i := 3) scRr.nd rfl (.inl rfl)) pgs_nil))))
      (pss_one (ps_ret (pe_call GOr (hr.mono (by omega)) (by rfl) gOr FOr.kp bOr .nil pass0 (pa_cons (pv 2) (pa_cons (pe_ix ix_list (pv 3) (pv 1) (fun _ _ => rfl)) (pa_cons (pe_ix ix_tup (pe_ix ix_tup (pe_ix ix_tup (pv 0) (pe_int) (fun _ _ => rfl)) (pv 1) (fun _ _ => rfl)) (pe_int) (fun _ _ => rfl)) pa_nil))))))), ?_⟩
    obtain ⟨_, ca, ga, xs, e, hi, hc, hgt, hgs⟩ := inst_open hI
    cases e
    obtain ⟨gA, pA, hx, hG, hP⟩ := grp_at hgs hg
    have hj := (List.getElem?_eq_some_iff.mp hg).1
    refine ⟨.ref i, rfl, .int (j : Nat), rfl, i, i, i, .int (j : Nat), cs, gs, .int (j : Nat), rfl, hI, .int _, _, rfl, iteFF ?_ ?_⟩
    · have : withinD 0 ((gs.length : Nat) - 1 : Int) (.int (j : Nat)) = true := decide_eq_true (by omega)
      rw [this]; rfl
    refine ⟨.ref i, rfl, i, cs, gs, rfl, hI, ok, fun Fe H1 T sl sn ts s1 hT eSl eSn hts => ⟨T, _, rfl, hT, rfl, _, _, rfl, _, _, rfl, rfl, ?_⟩, fun ss hm hneg H1 d ca ra s1 nd h1 h2 => q.2 ss hm hneg H1 d ca ra s1 nd h1 h2⟩
    have hlt : j < ts.length := by rw [hts.1, List.length_map]; exact hj
    obtain ⟨sgl, hsg, Tj, hTj, hTq⟩ := hts.at (List.getElem?_eq_getElem hlt)
    rw [List.getElem?_map, hg] at hsg
    cases hsg
    have hat : ts[j]? = some (.ref Tj) := by rw [List.getElem?_eq_getElem hlt, hTj]
    refine ⟨.ref sl, rfl, .ref sn, rfl, .int (j : Nat), rfl, sn, _, _, _, rfl, rfl, SqL.of eSn, atI_nat hat, .ref i, rfl, i, _, 1, .ref ga, rfl, rfl, sqS s1 hi, atI_nat (j := 1) rfl, .int (j : Nat), rfl, ga, _, _, _, rfl, rfl, sqS s1 hgt, atI_nat hx, gA, _, 1, .int g.2, rfl, rfl, sqS s1 hG, atI_nat (j := 1) rfl, sl, Tj, _, _, _, rfl, eSl, hTq, ?_, fun H2 T2 a b ha hb s2 eT => q.1 Fe H2 T2 a b (s1.trans s2) ha hb eT⟩
    exact slk_len ok
def spLf (K : PySem.W.Frag) : Sp := fun vs H Q _ => ∃ (i : Addr) (j : Nat) (cs : List Int) (gs : List Gp) (g : Gp), vs = [.ref i, .int j] ∧ Dp K H (.ref i) (dInst cs gs) ∧ InsOk cs gs ∧ gs[j]? = some g ∧
  (FeasI cs gs (es0 cs gs) → ∀ (H' : Hp) (T : Addr) (a b : Int), Same H H' → IsMax a (0 :: lows (slk (nzP cs gs) (spOf cs gs) (rCro cs gs) (es0 cs gs)) (sgn (nzP cs gs) (rCro cs gs) (routeOf cs gs g)) g.2) → IsMin b (g.2 :: highs (slk (nzP cs gs) (spOf cs gs) (rCro cs gs) (es0 cs gs)) (sgn (nzP cs gs) (rCro cs gs) (routeOf cs gs g))) → H' T = some (.tup [.int a, .int b]) → Q (.ref T) H') ∧
  (∀ ss ∈ subsL (nzP cs gs), FS (nzP cs gs) (spOf cs gs) (mem ss) (es0 cs gs) < 0 → ∀ H', Same H H' → Q (.str "shortage") H')
set_option maxHeartbeats 4000000 in
theorem ok_Lf {f fRr fLg cNU cTM fiNU : Addr} {fd fdRr fdLg : FuncData} (F : Fun K "_law_found" "_law_found" sLf f fd)
    (FRr : Fun K "reserve_range" "reserve_range" sRr fRr fdRr) (bRr : Binds K fdRr ["instance", "group"] []) (gRr : mg "reserve_range" = some (.ref fRr)) (GRr : FnOk P w K mg base (L2N.CX P w) 7 fRr fdRr ["instance", "group"] (spRr K cNU))
    (FLg : Fun K "_law_is_shortage" "_law_is_shortage" sLg fLg fdLg) (bLg : Binds K fdLg ["_law_instance_here", "_law_crowd", "_law_room_here"] []) (gLg : mg "_law_is_shortage" = some (.ref fLg)) (GLg : L2H.FnH P w K mg base CX0 4 fLg fdLg ["_law_instance_here", "_law_crowd", "_law_room_here"] (spLg K))
    (gNU : mg "NoUnbeaten" = some (.ref cNU)) (gTM : mg "TooMany" = some (.ref cTM)) (INU : IsC K cNU) (XNU : XF2 K cNU fiNU "crowded" "reserves")
    (x1 : PySem.W.exmOne K (.ref cNU) (.ref cNU) = some true) (x2 : PySem.W.kitOne K (.ref cNU) (.ref cTM) = some false)
    (m_isinstance : mg "isinstance" = none) :
    FnOk P w K mg base CX0 9 f fd ["_law_instance_here", "_law_group"] (spLf K) := by
  refine F.ok scLf (fun vs H Q E h => ?_) (fun cdv A outer s H vs Q E hr h => ?_)
  · obtain ⟨i, j, cs, gs, g, rfl, _⟩ := h; rfl
  · obtain ⟨i, j, cs, gs, g, rfl, hI, ok, hg, q1, q2⟩ := h
    refine ⟨_, pss_cons (ps_set (i := 2) scLf.nd rfl (.inl rfl) (pe_str))
      (pss_cons (L2N.ps_try_as (i := 3) (tb := fun W => tAsg (tCallS (spRr K cNU) (WE W) (tCons (tVar 0) (tCons (tVar 1) tNil))) (gName 2)) (ts := tsLf K cNU cTM) (Wout := fun _ _ _ _ => False) rfl rfl scLf.nd rfl rfl ⟨rfl, by decide, Or.inl gNU⟩ takes0N
        (fun W pn xe tk _ => pss_one (ps_set (i := 2) scLf.nd rfl (.inl rfl) (by exact (pe_callS GRr (hr.mono (by omega)) rfl gRr FRr.kp bRr (fun σ => L2N.passAt tk σ) (by exact (pa_cons (pv 0) (pa_cons (pv 1) pa_nil)))))))
        (fun a oe cls d pn hz hf => by
          refine pss_one (ps_if (PW.pt (pw_and (pt_not (pt_val (pe_callB (call_isX hz.zc hf) (by rfl) m_isinstance (by decide +kernel) (pa_cons (pv 3) (pa_cons (pe_glob (v := .ref cTM) (by rfl) gTM rfl) pa_nil)))))
            (pw_and1 (pt_val (by exact (pe_callW (k := 4) GLg (roomH_suite hr (by omega)) (hotC_suite hz hf) (by rfl) gLg FLg.kp bLg (by exact (pa_cons (pv 0) (pa_cons (pe_xf XNU.rd XNU.no1 hz.zc hf (pv 3)) (pa_cons (pe_xf XNU.rd XNU.no2 hz.zc hf (pv 3)) pa_nil))))))))))
            (pss_one (ps_set (i := 2) scLf.nd rfl (.inl rfl) (pe_str))) pss_nil)))
      (pss_one (ps_ret (pv 2)))), ?_⟩
    refine ⟨.ref i, rfl, .int (j : Nat), rfl, i, j, cs, gs, g, rfl, hI, ok, hg, fun Fe H1 T a b s1 ha hb eT => ⟨_, rfl, q1 Fe H1 T a b s1 ha hb eT⟩, fun ss hss hF H1 d ca ra s1 nd h1 h2 => ?_⟩
    refine ⟨true, x1, fun _ e ne => ?_, fun z => nomatch z⟩
    have sx := s1.trans (sameNew (o := .xd [("reserves", .ref ra), ("crowded", .ref ca)]) nd)
    obtain ⟨ca', e1, hca⟩ := h1
    cases e1
    obtain ⟨ra', e2, hra⟩ := h2
    cases e2
    have sd := sameNew (o := .xd [("reserves", .ref ra), ("crowded", .ref ca)]) nd
    refine ⟨.ref e, rfl, cNU, .ref cTM, false, rfl, INU, (fun _ z => by cases z; exact ⟨_, upd_same⟩), rfl, .inl ⟨_, .own _, x2⟩, _, rfl, iteT ?_⟩
    refine ⟨.ref i, rfl, .ref e, rfl, rfl, rfl, d, _, _, rfl, upd_same, rfl, .ref e, rfl, rfl, rfl, d, _, _, rfl, upd_same, rfl, ?_⟩
    refine ⟨i, ca, ra, cs, gs, ss, rfl, (TupK.of sx).dp _ _ (to_dInst _ _) hI, ok, hss, hF, sqS sd hca, sqS sd hra, fun H2 s2 => ⟨_, rfl, iteT ?_⟩⟩
    exact ⟨_, rfl, q2 ss hss hF H2 (sx.trans s2)⟩
end
end Pv
namespace Pv
open PySem PySem.Spec PyProof.Rows L2
abbrev sLaw : Stmt := topS 41
theorem scLaw : FnScope ["_law_script", "_law_deck", "_law_turn", "_law_instance_here", "_law_kept", "_law_vectors", "_law_group", "_law_due", "_law_numbers", "_law_vector"] ["_law_script"] (defScope sLaw) := ⟨rfl, rfl, rfl, by decide +kernel, rfl, by decide +kernel, by decide +kernel⟩
theorem fit_show {M : Nat} (hM : M < 10 ^ 35) {k W : Nat} {a : PyData} (ha : Fit M k W a) (hk : k ≤ 50) (hW : W ≤ 1000000) : a.showable = true ∧ a.depth ≤ 60 ∧ a.shown.length ≤ sizeLine := by
  obtain ⟨s1, s2⟩ := fit_ok hM ha.ok
  refine ⟨s1, Nat.le_trans ha.dp (by omega), Nat.le_trans s2 (Nat.le_trans ha.wt ?_)⟩
  rw [sizeLine_eq]; omega
theorem plain_ns {ns : List Int} (h : ns.length ≤ 1000) : plain (dI ns) = true := by
  simp only [dI, plain, Bool.and_eq_true, decide_eq_true_eq]
  refine ⟨by simpa using h, ?_⟩
  clear h
  induction ns with
  | nil => rfl
  | cons n ns ih => simp [plainAll, plain, ih]
theorem depth_ns (ns : List Int) : (dI ns).depth ≤ 1 := by simp only [dI, PyData.depth, dep_ints]; omega
theorem lay_Ls : ∀ ls : List (List Int), PyData.canLayAll0 (ls.map dI) = true
  | [] => by simp [PyData.canLayAll0]
  | l :: ls => by
    show (PyData.canLay0 (dI l) && PyData.canLayAll0 (ls.map dI)) = true
    rw [Bool.and_eq_true]
    exact ⟨by show PyData.canLay0 (.tuple (l.map PyData.int)) = true; simp only [PyData.canLay0]; exact lay_ints l, lay_Ls ls⟩
theorem dep_Ls : ∀ ls : List (List Int), PyData.depthAll (ls.map dI) ≤ 1
  | [] => by simp [PyData.depthAll]
  | l :: ls => by
    have h1 := depth_ns l
    have h2 := dep_Ls ls
    show PyData.depthAll (dI l :: ls.map dI) ≤ 1
    simp only [PyData.depthAll]
    omega
theorem shaped_Ls (ls : List (List Int)) : SeqAt.shaped (.list (ls.map dI)) = true := by
  have hd := dep_Ls ls
  show (PyData.canLay0 (.list (ls.map dI)) && decide (PyData.depth (.list (ls.map dI)) ≤ 64)) = true
  rw [Bool.and_eq_true, decide_eq_true_iff]
  refine ⟨by simp only [PyData.canLay0]; exact lay_Ls ls, ?_⟩
  simp only [PyData.depth]
  omega
theorem dp_Ls {K : PySem.W.Frag} {H : Hp} : ∀ {vs : List V} {ls : List (List Int)}, Rl (TuV K H) vs ls → DpAll K H vs (ls.map dI)
  | [], [], _ => .nil
  | [], l :: ls, h => by have := h.1; simp at this
  | v :: vs, [], h => by have := h.1; simp at this
  | v :: vs, l :: ls, h => by
    obtain ⟨a, rfl, ha⟩ := h.2 0 v l rfl rfl
    exact .cons (dI_sq ha) (dp_Ls ⟨by have := h.1; simpa using this, fun i v r h1 h2 => h.2 (i + 1) v r (by simpa using h1) (by simpa using h2)⟩)
theorem two_same {d : PyData} (hp : plain d = true) (hd : d.depth ≤ 1) : plain (.list [d, d]) = true ∧ (PyData.list [d, d]).depth ≤ 2 := by
  refine ⟨by simp [plain, plainAll, hp], ?_⟩
  simp only [PyData.depth, PyData.depthAll]
  omega
section
variable {P : Program} {w : World} {K : PySem.W.Frag} {mg : Str → Option Value} {base : Heap}
def spLaw (K : PySem.W.Frag) : Sp := fun vs H Q _ => ∃ (a : Addr) (ns : List Int), vs = [.ref a] ∧ SqL K H a (ns.map V.int) ∧ ns.length ≤ 63 ∧ ∀ H', Q (.bl true) H'
set_option maxHeartbeats 16000000 in
theorem ok_Law {f fSt fDr fIn fLa fLf fSm : Addr} {fd fdSt fdDr fdIn fdLa fdLf fdSm : FuncData} (F : Fun K "law" "law" sLaw f fd)
    (FSt : Fun K "_law_begin" "_law_begin" sSt fSt fdSt) (bSt : Binds K fdSt ["_law_script"] []) (gSt : mg "_law_begin" = some (.ref fSt)) (GSt : FnOk P w K mg base CX0 1 fSt fdSt ["_law_script"] (spStart K))
    (FDr : Fun K "_law_next" "_law_next" sDr fDr fdDr) (bDr : Binds K fdDr ["_law_deck", "_law_many"] []) (gDr : mg "_law_next" = some (.ref fDr)) (GDr : FnOk P w K mg base CX0 1 fDr fdDr ["_law_deck", "_law_many"] spDraw)
    (FIn : Fun K "_law_instance" "_law_instance" sIn fIn fdIn) (bIn : Binds K fdIn ["_law_deck", "_law_most_posts", "_law_most_groups", "_law_top"] []) (gIn : mg "_law_instance" = some (.ref fIn)) (GIn : FnOk P w K mg base CX0 3 fIn fdIn ["_law_deck", "_law_most_posts", "_law_most_groups", "_law_top"] (spInst K))
    (FLa : Fun K "_law_all_vectors" "_law_all_vectors" sLa fLa fdLa) (bLa : Binds K fdLa ["_law_instance_here"] []) (gLa : mg "_law_all_vectors" = some (.ref fLa)) (GLa : FnOk P w K mg base CX0 5 fLa fdLa ["_law_instance_here"] (spLa K))
    (FLf : Fun K "_law_found" "_law_found" sLf fLf fdLf) (bLf : Binds K fdLf ["_law_instance_here", "_law_group"] []) (gLf : mg "_law_found" = some (.ref fLf)) (GLf : FnOk P w K mg base CX0 9 fLf fdLf ["_law_instance_here", "_law_group"] (spLf K))
    (FSm : Fun K "_law_same" "_law_same" sSame fSm fdSm) (bSm : Binds K fdSm ["_law_found_here", "_law_due"] []) (gSm : mg "_law_same" = some (.ref fSm)) (GSm : FnOk P w K mg base CX0 3 fSm fdSm ["_law_found_here", "_law_due"] (spS K 3))
    (m_range : mg "range" = none) (m_repr : mg "repr" = none) (m_len : mg "len" = none) (m_min : mg "min" = none) (m_max : mg "max" = none) :
    FnG P w K mg base 10 f fd ["_law_script"] (spLaw K) := by
  refine okG F scLaw (fun vs H Q E h => ?_) (fun cdv A outer s H vs Q E hgd hr h => ?_)
  · obtain ⟨a, ns, rfl, _⟩ := h; rfl
  · obtain ⟨a, ns, rfl, hS, hn, q⟩ := h
    have hu64 : (A.deeper (envOfC "law" (defScope sLaw) s.heap.objs.size f cdv)).units + 64 < cLine := by have := hr.un; omega
    refine ⟨_, pss_cons (ps_set (i := 1) scLaw.nd rfl (.inl rfl) (pe_call GSt (hr.mono (by omega)) (by rfl) gSt FSt.kp bSt .nil pass0 (pa_cons (pv 0) pa_nil)))
      (pss_cons (ps_for PassesOwn.never rfl (pi_range1 (by rfl) m_range (pa_cons (pe_int) pa_nil)) (pg_name (i := 2) scLaw.nd rfl (.inl rfl))
        (pss_cons (ps_set (i := 3) scLaw.nd rfl (.inl rfl) (pe_call GIn (hr.mono (by omega)) (by rfl) gIn FIn.kp bIn .nil pass0 (pa_cons (pv 1) (pa_cons (pe_int) (pa_cons (pe_int) (pa_cons (pe_ix ix_list (pe_lst (pa_cons (pe_int) (pa_cons (pe_int) (pa_cons (pe_int) (pa_cons (pe_int) pa_nil))))) (pe_call GDr (hr.mono (by omega)) (by rfl) gDr FDr.kp bDr .nil pass0 (pa_cons (pv 1) (pa_cons (pe_int) pa_nil))) (fun _ _ => rfl)) pa_nil))))))
        (pss_cons (ps_par (i := 4) (j := 5) rfl scLaw.nd rfl rfl (by decide) rfl rfl (pa_cons (pe_callB (call_reprA hgd (hu70 hr)) (by rfl) m_repr (by decide +kernel) (pa_cons (pv 3) pa_nil)) (pa_cons (pe_call GLa (hr.mono (by omega)) (by rfl) gLa FLa.kp bLa .nil pass0 (pa_cons (pv 3) pa_nil)) pa_nil)) rfl)
        (pss_cons (ps_for PassesOwn.never rfl (pi_range1 (by rfl) m_range (pa_cons (pe_callB call_lenQ (by rfl) m_len PySem.boot_len (pa_cons (pe_ix ix_tup (pv 3) (pe_int) (fun _ _ => rfl)) pa_nil)) pa_nil)) (pg_name (i := 6) scLaw.nd rfl (.inr rfl))
          (pss_cons (ps_set (i := 7) scLaw.nd rfl (.inl rfl) (pe_str))
          (pss_cons (ps_if (pt_cmpR (op_neD hu64) (pv 5) (pe_lst (pa_nil)) (nomark _))
            (pss_cons (ps_setLc (i := 8) (own := [("_law_vector", 9)]) (g := gName 9) (tt := tYes) (te := tOp (rIxT K) (tVar 9) (tVar 6)) rfl scLaw.nd rfl rfl (sw_true rfl rfl rfl (by decide +kernel)) (pi_list (pv 5)) (blkOk_by (N := ["_law_script", "_law_deck", "_law_turn", "_law_instance_here", "_law_kept", "_law_vectors", "_law_group", "_law_due", "_law_numbers", "_law_vector"]) (sc := defScope sLaw) (by decide +kernel)) (fun _ _ _ _ _ => pg_name (i := 9) scLaw.nd rfl (.inl rfl)) (fun _ _ _ _ _ => pts_nil) (fun _ _ _ _ _ => pe_ix ix_tup (pv 9) (pv 6) (fun _ _ => rfl)))
            (pss_one (ps_set (i := 7) scLaw.nd rfl (.inl rfl) (pe_tup (pa_cons (pe_callB (cr_min rfl) (by rfl) m_min (by decide +kernel) (pa_cons (pv 8) pa_nil)) (pa_cons (pe_callB (cr_max rfl) (by rfl) m_max (by decide +kernel) (pa_cons (pv 8) pa_nil)) pa_nil)))))) pss_nil)
          (pss_one (ps_if (pt_not (pt_val (pe_call GSm (hr.mono (by omega)) (by rfl) gSm FSm.kp bSm .nil pass0 (pa_cons (pe_lst (pa_cons (pe_call GLf (hr.mono (by omega)) (by rfl) gLf FLf.kp bLf .nil pass0 (pa_cons (pv 3) (pa_cons (pv 6) pa_nil))) (pa_cons (pe_call GLf (hr.mono (by omega)) (by rfl) gLf FLf.kp bLf .nil pass0 (pa_cons (pv 3) (pa_cons (pv 6) pa_nil))) pa_nil))) (pa_cons (pe_lst (pa_cons (pv 7) (pa_cons (pv 7) pa_nil))) pa_nil)))))
            (pss_one (ps_ret (pe_bl))) pss_nil)))))
        (pss_one (ps_if (pt_cmpR op_ne (pe_callB (call_reprA hgd (hu70 hr)) (by rfl) m_repr (by decide +kernel) (pa_cons (pv 3) pa_nil)) (pv 4) (nomark _))
          (pss_one (ps_ret (pe_bl))) pss_nil))))))
      (pss_one (ps_ret (pe_bl)))), ?_⟩
    refine ⟨.ref a, rfl, a, ns, rfl, hS, hn, fun H1 st g s1 D1 => ?_⟩
    refine ⟨10, rfl, by omega, by omega, for_it (walk_range (lo := 0) (n := (10 : Int).toNat))
      (fun j σ H2 => ∃ (t : Nat) (y2 y3 y4 y5 y6 y7 y8 : Option V), σ = [some (.ref a), some (.ref st), y2, y3, y4, y5, y6, y7, y8, none] ∧ DV H2 st g t ∧ t ≤ 2000 * j)
      ⟨0, none, none, none, none, none, none, none, rfl, D1, by omega⟩ (fun _ _ _ _ _ => trivial) ?_ ?_⟩
    case _ =>
      rintro j v σ H2 H2' hlt ⟨t, y2, y3, y4, y5, y6, y7, y8, rfl, D2, ht⟩ ⟨rfl, rfl⟩
      have hj : j < 10 := hlt
      dsimp only
      refine ⟨.ref st, rfl, (show (4 : Nat) ≤ sizeLine by decide), fun Z nZ => ⟨.ref st, rfl, st, g, t, 4, rfl, D2.new nZ, by omega, by decide, by decide, fun H3 k3 h30 h31 D3 X3 => ?_⟩⟩
      obtain ⟨oZ1, oZ2⟩ := D2.off nZ
      obtain ⟨top, htop, tb⟩ : ∃ top : Int, atI [V.int 2, V.int 3, V.int 4, V.int 5] k3 = some (.int top) ∧ (1 ≤ top ∧ top ≤ 5) := by
        obtain h | h | h | h : k3 = 0 ∨ k3 = 1 ∨ k3 = 2 ∨ k3 = 3 := by omega
        · exact ⟨2, by rw [h]; rfl, by decide⟩
        · exact ⟨3, by rw [h]; rfl, by decide⟩
        · exact ⟨4, by rw [h]; rfl, by decide⟩
        · exact ⟨5, by rw [h]; rfl, by decide⟩
      refine ⟨Z, _, _, .int top, rfl, rfl, SqL.of (X3 _ _ upd_same oZ1 oZ2), htop, st, g, _, 4, 4, top, rfl, D3, by omega, by decide, by decide, by decide, by decide, by omega, by omega, fun H4 i t4 cs gs D4 ht4 X4 hI ok nd lcs bcs lgs bgs => ?_⟩
      have h6c := ok.c6
      have h10 := ok.g10
      have shI := fit_show (M := 10 ^ 29) (by decide) (fit_dInst (cs := cs) (gs := gs) ⟨by omega, fun x hx => by have := ok.cb x hx; omega⟩ (by omega) (fun g' hg' => ⟨by have := (ok.gp g' hg').1; omega, fun x hx => by have := (ok.gp g' hg').2.1 x hx; omega, by have := (ok.gp g' hg').2.2; omega⟩)) (by decide) (by decide)
      refine ⟨.ref i, rfl, .ref i, dInst cs gs, i, i, rfl, .of_dp (to_dInst _ _) hI, shI.1, shI.2.1, shI.2.2, .ref i, rfl, i, cs, gs, rfl, hI, ok, by omega, fun g' hg' => by have := bgs g' hg'; omega, fun H5 Lv vs s5 e5 hR5 lL => ⟨_, _, rfl, ?_⟩⟩
      have lvs := hR5.1
      have hI5 := (TupK.of s5).dp _ _ (to_dInst _ _) hI
      have D5 := D4.same s5
      obtain ⟨_, ca, ga, xs, e, hi, hc, hgt, hgs⟩ := inst_open hI5
      cases e
      have lx := DpAll.len hgs
      rw [List.length_map] at lx
      refine ⟨.ref i, rfl, i, _, 1, .ref ga, rfl, rfl, hi, atI_nat (j := 1) rfl, ga, _, rfl, .inr hgt, _, rfl, by omega, by omega, for_it (walk_range (lo := 0) (n := ((xs.length : Nat) : Int).toNat))
        (fun k σ H8 => ∃ (y6 y7 y8 : Option V), σ = [some (.ref a), some (.ref st), some (.int (0 + (j : Nat))), some (.ref i), some (.str (dInst cs gs).shown), some (.ref Lv), y6, y7, y8, none] ∧ Same H5 H8)
        ⟨_, _, _, rfl, Same.refl _⟩ (fun _ _ _ _ _ => trivial) ?_ ?_⟩
      · rintro k v σ H8' H8 hk ⟨y6', y7', y8', rfl, s8⟩ ⟨rfl, rfl⟩
        have hk : k < ((xs.length : Nat) : Int).toNat := hk
        have hkg : k < gs.length := by omega
        have hg : gs[k]? = some gs[k] := List.getElem?_eq_getElem hkg
        have e0 : (0 : Int) + ((k : Nat) : Int) = ((k : Nat) : Int) := Int.zero_add _
        dsimp only
        rw [e0]
        have hR8 : Rl (TuV K H8) vs (vecsL cs gs) := hR5.mono fun v r h => h.tk (TupK.of s8)
        refine ⟨.ref Lv, rfl, Nat.zero_le _, fun E0 nE => ⟨.list ((vecsL cs gs).map dI), .list [], .lst (SqL.of (upNew nE (s8 _ _ e5))) (dp_Ls (hR8.mono fun v r h => h.tk (TupK.of (sameNew nE)))), .lst (SqL.of upd_same) .nil, shaped_Ls _, by decide, _, rfl, ?_⟩⟩
        rw [eqv_empty]
        have sE := sameNew (o := .lst []) nE
        have sE5 := s8.trans sE
        generalize upd H8 E0 (.lst []) = H9 at sE sE5
        cases hv : vecsL cs gs with
        | nil =>
          refine iteFF (by simp) ?_
          have noF : ¬ FeasI cs gs (es0 cs gs) := fun hF => by
            obtain ⟨ys, hy⟩ := (some_vec ok).mpr hF
            have := vec_mem.mpr hy
            rw [hv] at this
            simp at this
          have hIx : ∀ {Hn : Hp}, Same H5 Hn → Dp K Hn (.ref i) (dInst cs gs) := fun sn => (TupK.of sn).dp _ _ (to_dInst _ _) hI5
          refine ⟨.ref i, rfl, .int (k : Nat), rfl, i, k, cs, gs, gs[k], rfl, hIx sE5, ok, hg, fun hF => absurd hF noF, fun ss hss hneg H10 s10 => ?_⟩
          refine ⟨.ref i, rfl, .int (k : Nat), rfl, i, k, cs, gs, gs[k], rfl, hIx (sE5.trans s10), ok, hg, fun hF => absurd hF noF, fun ss' hss' hneg' H11 s11 => ?_⟩
          refine ⟨(show (2 : Nat) ≤ sizeLine by decide), fun L1 n1 => ⟨.str "shortage", rfl, .str "shortage", rfl, (show (2 : Nat) ≤ sizeLine by decide), fun L2' n2 => ?_⟩⟩
          have q1 := sameNew (o := .lst [.str "shortage", .str "shortage"]) n1
          have q2 := sameNew (o := .lst [.str "shortage", .str "shortage"]) n2
          refine ⟨.ref L1, .ref L2', .list [.str "shortage", .str "shortage"], rfl, .lst (SqL.of (q2 _ _ upd_same)) (.cons (.str _) (.cons (.str _) .nil)), .lst (SqL.of upd_same) (.cons (.str _) (.cons (.str _) .nil)), by decide +kernel, by decide +kernel, fun H12 s12 => ⟨_, rfl, iteFF rfl ?_⟩⟩
          exact ⟨_, _, _, rfl, sE5.trans (s10.trans (s11.trans (q1.trans (q2.trans s12))))⟩
        | cons l0 lr =>
          refine iteTT (by simp) ?_
          have vne : vs ≠ [] := fun z => by rw [z, hv] at lvs; simp at lvs
          refine ⟨.ref Lv, rfl, Lv, rfl, ⟨_, SqL.of (sE5 _ _ e5)⟩, fun Nu nN => lc_it (walk_list (K := K) (a := Lv) (xs := vs))
            (LcP H9 Nu (vecsL cs gs) (fun (l : List Int) => some (.int (l.getD k 0)))) (.start nN) (fun m H _ h => SqL.of (h.1 _ _ (sE5 _ _ e5))) ?_ ?_⟩
          · rintro m v H10 H11 hm hM ⟨rfl, hv2⟩
            have hv2 : vs[m]? = some v := hv2
            have hm' : m < (vecsL cs gs).length := by omega
            obtain ⟨l, hl, T, rfl, hT⟩ := (hR5.mono fun v r h => h.tk (TupK.of (sE5.trans hM.1))).at hv2
            have hlv := vec_mem.mp (List.mem_of_getElem? hl)
            have hkl : k < l.length := by rw [hlv.1]; exact hkg
            exact ⟨rfl, .ref T, rfl, .int (k : Nat), rfl, T, _, k, .int (l.getD k 0), rfl, rfl, hT, atI_nat (by rw [List.getElem?_map, List.getD_eq_getElem?_getD, List.getElem?_eq_getElem hkl]; rfl), hM.yes nN (Same.refl _) hl rfl (by omega)⟩
          rintro H10 hM
          have eN := hM.done (Nat.le_of_eq lvs.symm)
          rw [fm_mapI (fun (l : List Int) => l.getD k 0)] at eN
          have s10 := sE5.trans hM.1
          have hne : 0 < ((vecsL cs gs).map (fun l => l.getD k 0)).length := by rw [List.length_map, hv]; simp
          refine ⟨.ref Nu, rfl, Nu, _, rfl, SqL.of eN, hne, fun mn hmn1 hmn2 => ⟨.ref Nu, rfl, Nu, _, rfl, SqL.of eN, hne, fun mxv hmx1 hmx2 => ⟨(show (2 : Nat) ≤ sizeLine by decide), fun Tu nTu => ?_⟩⟩⟩
          have hF : FeasI cs gs (es0 cs gs) := (some_vec ok).mp ⟨l0, vec_mem.mp (by rw [hv]; simp)⟩
          have memN : ∀ x : Int, x ∈ (vecsL cs gs).map (fun l => l.getD k 0) ↔ ∃ ys, IsVec cs gs ys ∧ ys[k]? = some x := by
            intro x
            rw [List.mem_map]
            constructor
            · rintro ⟨l, hl, rfl⟩
              have hlv := vec_mem.mp hl
              have hkl : k < l.length := by rw [hlv.1]; exact hkg
              exact ⟨l, hlv, by rw [List.getD_eq_getElem?_getD, List.getElem?_eq_getElem hkl]; rfl⟩
            · rintro ⟨l, hlv, hx⟩
              exact ⟨l, vec_mem.mpr hlv, by rw [List.getD_eq_getElem?_getD, hx]; rfl⟩
          have ab : ∀ {a' b' : Int}, IsMax a' (0 :: lows (slk (nzP cs gs) (spOf cs gs) (rCro cs gs) (es0 cs gs)) (sgn (nzP cs gs) (rCro cs gs) (routeOf cs gs gs[k])) gs[k].2) → IsMin b' (gs[k].2 :: highs (slk (nzP cs gs) (spOf cs gs) (rCro cs gs) (es0 cs gs)) (sgn (nzP cs gs) (rCro cs gs) (routeOf cs gs gs[k]))) → a' = mn ∧ b' = mxv := by
            intro a' b' ha hb
            obtain ⟨⟨y1, v1, z1⟩, ⟨y2, v2, z2⟩, bd, _⟩ := range_vec ok hF hg ha hb
            obtain ⟨y3, v3, z3⟩ := (memN mn).mp hmn1
            obtain ⟨y4, v4, z4⟩ := (memN mxv).mp hmx1
            have q1 := hmn2 a' ((memN a').mpr ⟨y1, v1, z1⟩)
            have q2 := (bd y3 mn v3 z3).1
            have q3 := hmx2 b' ((memN b').mpr ⟨y2, v2, z2⟩)
            have q4 := (bd y4 mxv v4 z4).2
            omega
          have sT := sameNew (o := .tup [.int mn, .int mxv]) nTu
          have hTu : SqT K (upd H10 Tu (.tup [.int mn, .int mxv])) Tu (([mn, mxv] : List Int).map V.int) := SqT.of upd_same
          have s11 := s10.trans sT
          generalize upd H10 Tu (.tup [.int mn, .int mxv]) = H11 at sT hTu s11
          have hIx : ∀ {Hn : Hp}, Same H5 Hn → Dp K Hn (.ref i) (dInst cs gs) := fun sn => (TupK.of sn).dp _ _ (to_dInst _ _) hI5
          have noS : ∀ ss ∈ subsL (nzP cs gs), ¬ FS (nzP cs gs) (spOf cs gs) (mem ss) (es0 cs gs) < 0 := fun ss hss hneg => absurd (hF.set (mem ss)) (by omega)
          refine ⟨.ref i, rfl, .int (k : Nat), rfl, i, k, cs, gs, gs[k], rfl, hIx s11, ok, hg, fun _ H12 T1 a1 b1 s12 hMx1 hMn1 eT1 => ?_, fun ss hss hneg => absurd hneg (noS ss hss)⟩
          obtain ⟨rfl, rfl⟩ := ab hMx1 hMn1
          refine ⟨.ref i, rfl, .int (k : Nat), rfl, i, k, cs, gs, gs[k], rfl, hIx (s11.trans s12), ok, hg, fun _ H13 T2 a2 b2 s13 hMx2 hMn2 eT2 => ?_, fun ss hss hneg => absurd hneg (noS ss hss)⟩
          obtain ⟨ea, eb⟩ := ab hMx2 hMn2
          subst ea eb
          refine ⟨(show (2 : Nat) ≤ sizeLine by decide), fun L1 n1 => ⟨.ref Tu, rfl, .ref Tu, rfl, (show (2 : Nat) ≤ sizeLine by decide), fun L2' n2 => ?_⟩⟩
          have q1 := sameNew (o := .lst [.ref T1, .ref T2]) n1
          have q2 := sameNew (o := .lst [.ref Tu, .ref Tu]) n2
          have hT1 : SqT K H12 T1 (([a2, b2] : List Int).map V.int) := SqT.of eT1
          have hT2 : SqT K H13 T2 (([a2, b2] : List Int).map V.int) := SqT.of eT2
          have pd := two_same (d := dI [a2, b2]) (plain_ns (show (2 : Nat) ≤ 1000 by decide)) (depth_ns _)
          refine ⟨.ref L1, .ref L2', .list [dI [a2, b2], dI [a2, b2]], rfl, .lst (SqL.of (q2 _ _ upd_same)) (.cons (dI_sq (sqS (s13.trans (q1.trans q2)) hT1)) (.cons (dI_sq (sqS (q1.trans q2) hT2)) .nil)), .lst (SqL.of upd_same) (.cons (dI_sq (sqS (s12.trans (s13.trans (q1.trans q2))) hTu)) (.cons (dI_sq (sqS (s12.trans (s13.trans (q1.trans q2))) hTu)) .nil)), pd.1, pd.2, fun H14 s14 => ⟨_, rfl, iteFF rfl ?_⟩⟩
          exact ⟨_, _, _, rfl, s11.trans (s12.trans (s13.trans (q1.trans (q2.trans s14))))⟩
      rintro σ H8 ⟨y6', y7', y8', rfl, s8⟩
      have hI8 := (TupK.of s8).dp _ _ (to_dInst _ _) hI5
      refine ⟨.ref i, rfl, .ref i, dInst cs gs, i, i, rfl, .of_dp (to_dInst _ _) hI8, shI.1, shI.2.1, shI.2.2, .str (dInst cs gs).shown, rfl, rfl, _, rfl, ?_⟩
      refine iteFF (by simp) ?_
      exact ⟨_, _, _, _, _, _, _, _, rfl, D5.same s8, by omega⟩
    rintro σ H2 ⟨t, y2, y3, y4, y5, y6, y7, y8, rfl, D2, ht⟩
    exact q _
end
end Pv
namespace Pv
open PySem PySem.Spec PyProof.Rows L2
abbrev siNU : Stmt := inCls (topS 5) 0
theorem sciNU : FnScope ["self", "crowded", "reserves"] ["self", "crowded", "reserves"] (defScope siNU) := ⟨rfl, rfl, rfl, by decide +kernel, rfl, by decide +kernel, by decide +kernel⟩
theorem ok_iNU {P : Program} {w : World} {K : PySem.W.Frag} {mg : Str → Option Value} {base : Heap} {f C : Addr} {fd : FuncData} (F : Fun K "__init__" "NoUnbeaten.__init__" siNU f fd) (X : XF2 K C f "crowded" "reserves") : FnOk P w K mg base CX0 1 f fd ["self", "crowded", "reserves"] (spI2 C "crowded" "reserves") := by
  refine F.ok sciNU (fun vs H Q E h => ?_) (fun cdv A outer s H vs Q E hr h => ?_)
  · obtain ⟨a, v, w', rfl, _⟩ := h; rfl
  · obtain ⟨a, v, w', rfl, hH, q⟩ := h
    refine ⟨_, pss_cons (ps_ost (pv 0) (pv 1)) (pss_one (ps_ost (pv 0) (pv 2))), ?_⟩
    refine ⟨v, rfl, .ref a, rfl, a, C, rfl, X.T, X.no1, .inl ⟨hH, fun dx nd ne => ?_⟩⟩
    refine ⟨w', rfl, .ref a, rfl, a, C, rfl, X.T, X.no2, .inr ⟨dx, [("crowded", v)], upd_same, by rw [upd_ne ne]; exact upd_same, by simp, ?_⟩⟩
    have := q dx nd ne
    have e : upd (upd (upd H dx (exd dx [("crowded", v)])) a (exo a C (some dx))) dx (exd dx [("reserves", w'), ("crowded", v)]) = upd (upd H dx (exd dx [("reserves", w'), ("crowded", v)])) a (exo a C (some dx)) := by
      funext b
      by_cases h1 : b = dx
      · rw [h1, upd_same, upd_ne ne, upd_same]
      · rw [upd_ne h1]
        by_cases h2 : b = a
        · rw [h2, upd_same, upd_same]
        · rw [upd_ne h2, upd_ne h2, upd_ne h1, upd_ne h1]
    rw [← e] at this
    exact this
end Pv
namespace Pv
open PySem PySem.Spec PyProof.Rows L2
/-! what the top has left -/
set_option maxHeartbeats 8000000 in
theorem all_mk {l : PySem.W.OpenLaw} {w : World} {K : PySem.W.Frag} {h : Heap} {mg : Str → Option Value} {fa fWh fWi fOp fDm fEx fFr fCl fCr fRe fGr fFc fSs fAs fSc fOr fIg fRr fSt fDr fSm fAm fIn fLd fLr fLw fLo fLv fLa fLg fLf fLaw : Addr} (X : K.In h) (G : h.Ns mainGlobals mg) (hfa : mg "law" = some (.ref fa))
    {odWh anWh odWi anWi odOp anOp odDm anDm odEx anEx odFr anFr odCl anCl odCr anCr odRe anRe odGr anGr odFc anFc odSs anSs odAs anAs odSc anSc odOr anOr odIg anIg odRr anRr odSt anSt odDr anDr odSm anSm odAm anAm odIn anIn odLd anLd odLr anLr odLw anLw odLo anLo odLv anLv odLa anLa odLg anLg odLf anLf odLaw anLaw : Option Addr} {slWh slWi slOp slDm slEx slFr slCl slCr slRe slGr slFc slSs slAs slSc slOr slIg slRr slSt slDr slSm slAm slIn slLd slLr slLw slLo slLv slLa slLg slLf slLaw : Array (Option Value)}
    {ocWh kVWh dcWh pmWh cdWh ctWh ocWi kVWi dcWi pmWi cdWi ctWi ocOp kVOp dcOp pmOp cdOp ctOp ocDm kVDm dcDm pmDm cdDm ctDm ocEx kVEx dcEx pmEx cdEx ctEx ocFr kVFr dcFr pmFr cdFr ctFr ocCl kVCl dcCl pmCl cdCl ctCl ocCr kVCr dcCr pmCr cdCr ctCr ocRe kVRe dcRe pmRe cdRe ctRe ocGr kVGr dcGr pmGr cdGr ctGr ocFc kVFc dcFc pmFc cdFc ctFc ocSs kVSs dcSs pmSs cdSs ctSs ocAs kVAs dcAs pmAs cdAs ctAs ocSc kVSc dcSc pmSc cdSc ctSc ocOr kVOr dcOr pmOr cdOr ctOr ocIg kVIg dcIg pmIg cdIg ctIg ocRr kVRr dcRr pmRr cdRr ctRr ocSt kVSt dcSt pmSt cdSt ctSt ocDr kVDr dcDr pmDr cdDr ctDr ocSm kVSm dcSm pmSm cdSm ctSm ocAm kVAm dcAm pmAm cdAm ctAm ocIn kVIn dcIn pmIn cdIn ctIn ocLd kVLd dcLd pmLd cdLd ctLd ocLr kVLr dcLr pmLr cdLr ctLr ocLw kVLw dcLw pmLw cdLw ctLw ocLo kVLo dcLo pmLo cdLo ctLo ocLv kVLv dcLv pmLv cdLv ctLv ocLa kVLa dcLa pmLa cdLa ctLa ocLg kVLg dcLg pmLg cdLg ctLg ocLf kVLf dcLf pmLf cdLf ctLf ocLaw kVLaw dcLaw pmLaw cdLaw ctLaw : Value}
    (aWh : PySem.W.nsIn K mainGlobals "is_whole" = some (some (.ref fWh))) (lWh : K.lookup fWh = some ⟨ocWh, odWh, .func (PySem.W.fnOf "is_whole" "is_whole" (defArgs sWhole) (defBody sWhole) (defScope sWhole) .none kVWh dcWh pmWh anWh cdWh ctWh), slWh⟩)
      (cWh : PySem.W.codeIn K cdWh "is_whole" = true) (kWh : PySem.W.keepIn K (.ref fWh) = true)
    (aWi : PySem.W.nsIn K mainGlobals "is_within" = some (some (.ref fWi))) (lWi : K.lookup fWi = some ⟨ocWi, odWi, .func (PySem.W.fnOf "is_within" "is_within" (defArgs sWithin) (defBody sWithin) (defScope sWithin) .none kVWi dcWi pmWi anWi cdWi ctWi), slWi⟩)
      (cWi : PySem.W.codeIn K cdWi "is_within" = true) (kWi : PySem.W.keepIn K (.ref fWi) = true)
    (aOp : PySem.W.nsIn K mainGlobals "option_post" = some (some (.ref fOp))) (lOp : K.lookup fOp = some ⟨ocOp, odOp, .func (PySem.W.fnOf "option_post" "option_post" (defArgs sOpt) (defBody sOpt) (defScope sOpt) .none kVOp dcOp pmOp anOp cdOp ctOp), slOp⟩)
      (cOp : PySem.W.codeIn K cdOp "option_post" = true) (kOp : PySem.W.keepIn K (.ref fOp) = true)
    (aDm : PySem.W.nsIn K mainGlobals "demands" = some (some (.ref fDm))) (lDm : K.lookup fDm = some ⟨ocDm, odDm, .func (PySem.W.fnOf "demands" "demands" (defArgs sDem) (defBody sDem) (defScope sDem) .none kVDm dcDm pmDm anDm cdDm ctDm), slDm⟩)
      (cDm : PySem.W.codeIn K cdDm "demands" = true) (kDm : PySem.W.keepIn K (.ref fDm) = true)
    (aEx : PySem.W.nsIn K mainGlobals "excesses" = some (some (.ref fEx))) (lEx : K.lookup fEx = some ⟨ocEx, odEx, .func (PySem.W.fnOf "excesses" "excesses" (defArgs sExc) (defBody sExc) (defScope sExc) .none kVEx dcEx pmEx anEx cdEx ctEx), slEx⟩)
      (cEx : PySem.W.codeIn K cdEx "excesses" = true) (kEx : PySem.W.keepIn K (.ref fEx) = true)
    (aFr : PySem.W.nsIn K mainGlobals "free_places" = some (some (.ref fFr))) (lFr : K.lookup fFr = some ⟨ocFr, odFr, .func (PySem.W.fnOf "free_places" "free_places" (defArgs sFre) (defBody sFre) (defScope sFre) .none kVFr dcFr pmFr anFr cdFr ctFr), slFr⟩)
      (cFr : PySem.W.codeIn K cdFr "free_places" = true) (kFr : PySem.W.keepIn K (.ref fFr) = true)
    (aCl : PySem.W.nsIn K mainGlobals "claimed_posts" = some (some (.ref fCl))) (lCl : K.lookup fCl = some ⟨ocCl, odCl, .func (PySem.W.fnOf "claimed_posts" "claimed_posts" (defArgs sCla) (defBody sCla) (defScope sCla) .none kVCl dcCl pmCl anCl cdCl ctCl), slCl⟩)
      (cCl : PySem.W.codeIn K cdCl "claimed_posts" = true) (kCl : PySem.W.keepIn K (.ref fCl) = true)
    (aCr : PySem.W.nsIn K mainGlobals "crowded_posts" = some (some (.ref fCr))) (lCr : K.lookup fCr = some ⟨ocCr, odCr, .func (PySem.W.fnOf "crowded_posts" "crowded_posts" (defArgs sCro) (defBody sCro) (defScope sCro) .none kVCr dcCr pmCr anCr cdCr ctCr), slCr⟩)
      (cCr : PySem.W.codeIn K cdCr "crowded_posts" = true) (kCr : PySem.W.keepIn K (.ref fCr) = true)
    (aRe : PySem.W.nsIn K mainGlobals "reserve_option" = some (some (.ref fRe))) (lRe : K.lookup fRe = some ⟨ocRe, odRe, .func (PySem.W.fnOf "reserve_option" "reserve_option" (defArgs sRes) (defBody sRes) (defScope sRes) .none kVRe dcRe pmRe anRe cdRe ctRe), slRe⟩)
      (cRe : PySem.W.codeIn K cdRe "reserve_option" = true) (kRe : PySem.W.keepIn K (.ref fRe) = true)
    (aGr : PySem.W.nsIn K mainGlobals "group_routes" = some (some (.ref fGr))) (lGr : K.lookup fGr = some ⟨ocGr, odGr, .func (PySem.W.fnOf "group_routes" "group_routes" (defArgs sGr) (defBody sGr) (defScope sGr) .none kVGr dcGr pmGr anGr cdGr ctGr), slGr⟩)
      (cGr : PySem.W.codeIn K cdGr "group_routes" = true) (kGr : PySem.W.keepIn K (.ref fGr) = true)
    (aFc : PySem.W.nsIn K mainGlobals "find_cuts" = some (some (.ref fFc))) (lFc : K.lookup fFc = some ⟨ocFc, odFc, .func (PySem.W.fnOf "find_cuts" "find_cuts" (defArgs sFc) (defBody sFc) (defScope sFc) .none kVFc dcFc pmFc anFc cdFc ctFc), slFc⟩)
      (cFc : PySem.W.codeIn K cdFc "find_cuts" = true) (kFc : PySem.W.keepIn K (.ref fFc) = true)
    (aSs : PySem.W.nsIn K mainGlobals "starting_signs" = some (some (.ref fSs))) (lSs : K.lookup fSs = some ⟨ocSs, odSs, .func (PySem.W.fnOf "starting_signs" "starting_signs" (defArgs sSs) (defBody sSs) (defScope sSs) .none kVSs dcSs pmSs anSs cdSs ctSs), slSs⟩)
      (cSs : PySem.W.codeIn K cdSs "starting_signs" = true) (kSs : PySem.W.keepIn K (.ref fSs) = true)
    (aAs : PySem.W.nsIn K mainGlobals "all_subsets" = some (some (.ref fAs))) (lAs : K.lookup fAs = some ⟨ocAs, odAs, .func (PySem.W.fnOf "all_subsets" "all_subsets" (defArgs sAs) (defBody sAs) (defScope sAs) .none kVAs dcAs pmAs anAs cdAs ctAs), slAs⟩)
      (cAs : PySem.W.codeIn K cdAs "all_subsets" = true) (kAs : PySem.W.keepIn K (.ref fAs) = true)
    (aSc : PySem.W.nsIn K mainGlobals "set_cut" = some (some (.ref fSc))) (lSc : K.lookup fSc = some ⟨ocSc, odSc, .func (PySem.W.fnOf "set_cut" "set_cut" (defArgs sSc) (defBody sSc) (defScope sSc) .none kVSc dcSc pmSc anSc cdSc ctSc), slSc⟩)
      (cSc : PySem.W.codeIn K cdSc "set_cut" = true) (kSc : PySem.W.keepIn K (.ref fSc) = true)
    (aOr : PySem.W.nsIn K mainGlobals "open_range" = some (some (.ref fOr))) (lOr : K.lookup fOr = some ⟨ocOr, odOr, .func (PySem.W.fnOf "open_range" "open_range" (defArgs sOr) (defBody sOr) (defScope sOr) .none kVOr dcOr pmOr anOr cdOr ctOr), slOr⟩)
      (cOr : PySem.W.codeIn K cdOr "open_range" = true) (kOr : PySem.W.keepIn K (.ref fOr) = true)
    (aIg : PySem.W.nsIn K mainGlobals "is_group" = some (some (.ref fIg))) (lIg : K.lookup fIg = some ⟨ocIg, odIg, .func (PySem.W.fnOf "is_group" "is_group" (defArgs sIg) (defBody sIg) (defScope sIg) .none kVIg dcIg pmIg anIg cdIg ctIg), slIg⟩)
      (cIg : PySem.W.codeIn K cdIg "is_group" = true) (kIg : PySem.W.keepIn K (.ref fIg) = true)
    (aRr : PySem.W.nsIn K mainGlobals "reserve_range" = some (some (.ref fRr))) (lRr : K.lookup fRr = some ⟨ocRr, odRr, .func (PySem.W.fnOf "reserve_range" "reserve_range" (defArgs sRr) (defBody sRr) (defScope sRr) .none kVRr dcRr pmRr anRr cdRr ctRr), slRr⟩)
      (cRr : PySem.W.codeIn K cdRr "reserve_range" = true) (kRr : PySem.W.keepIn K (.ref fRr) = true)
    (aSt : PySem.W.nsIn K mainGlobals "_law_begin" = some (some (.ref fSt))) (lSt : K.lookup fSt = some ⟨ocSt, odSt, .func (PySem.W.fnOf "_law_begin" "_law_begin" (defArgs sSt) (defBody sSt) (defScope sSt) .none kVSt dcSt pmSt anSt cdSt ctSt), slSt⟩)
      (cSt : PySem.W.codeIn K cdSt "_law_begin" = true) (kSt : PySem.W.keepIn K (.ref fSt) = true)
    (aDr : PySem.W.nsIn K mainGlobals "_law_next" = some (some (.ref fDr))) (lDr : K.lookup fDr = some ⟨ocDr, odDr, .func (PySem.W.fnOf "_law_next" "_law_next" (defArgs sDr) (defBody sDr) (defScope sDr) .none kVDr dcDr pmDr anDr cdDr ctDr), slDr⟩)
      (cDr : PySem.W.codeIn K cdDr "_law_next" = true) (kDr : PySem.W.keepIn K (.ref fDr) = true)
    (aSm : PySem.W.nsIn K mainGlobals "_law_same" = some (some (.ref fSm))) (lSm : K.lookup fSm = some ⟨ocSm, odSm, .func (PySem.W.fnOf "_law_same" "_law_same" (defArgs sSame) (defBody sSame) (defScope sSame) .none kVSm dcSm pmSm anSm cdSm ctSm), slSm⟩)
      (cSm : PySem.W.codeIn K cdSm "_law_same" = true) (kSm : PySem.W.keepIn K (.ref fSm) = true)
    (aAm : PySem.W.nsIn K mainGlobals "_law_amount" = some (some (.ref fAm))) (lAm : K.lookup fAm = some ⟨ocAm, odAm, .func (PySem.W.fnOf "_law_amount" "_law_amount" (defArgs sAm) (defBody sAm) (defScope sAm) .none kVAm dcAm pmAm anAm cdAm ctAm), slAm⟩)
      (cAm : PySem.W.codeIn K cdAm "_law_amount" = true) (kAm : PySem.W.keepIn K (.ref fAm) = true)
    (aIn : PySem.W.nsIn K mainGlobals "_law_instance" = some (some (.ref fIn))) (lIn : K.lookup fIn = some ⟨ocIn, odIn, .func (PySem.W.fnOf "_law_instance" "_law_instance" (defArgs sIn) (defBody sIn) (defScope sIn) .none kVIn dcIn pmIn anIn cdIn ctIn), slIn⟩)
      (cIn : PySem.W.codeIn K cdIn "_law_instance" = true) (kIn : PySem.W.keepIn K (.ref fIn) = true)
    (aLd : PySem.W.nsIn K mainGlobals "_law_demand" = some (some (.ref fLd))) (lLd : K.lookup fLd = some ⟨ocLd, odLd, .func (PySem.W.fnOf "_law_demand" "_law_demand" (defArgs sLd) (defBody sLd) (defScope sLd) .none kVLd dcLd pmLd anLd cdLd ctLd), slLd⟩)
      (cLd : PySem.W.codeIn K cdLd "_law_demand" = true) (kLd : PySem.W.keepIn K (.ref fLd) = true)
    (aLr : PySem.W.nsIn K mainGlobals "_law_reserve" = some (some (.ref fLr))) (lLr : K.lookup fLr = some ⟨ocLr, odLr, .func (PySem.W.fnOf "_law_reserve" "_law_reserve" (defArgs sLr) (defBody sLr) (defScope sLr) .none kVLr dcLr pmLr anLr cdLr ctLr), slLr⟩)
      (cLr : PySem.W.codeIn K cdLr "_law_reserve" = true) (kLr : PySem.W.keepIn K (.ref fLr) = true)
    (aLw : PySem.W.nsIn K mainGlobals "_law_rows" = some (some (.ref fLw))) (lLw : K.lookup fLw = some ⟨ocLw, odLw, .func (PySem.W.fnOf "_law_rows" "_law_rows" (defArgs sLw) (defBody sLw) (defScope sLw) .none kVLw dcLw pmLw anLw cdLw ctLw), slLw⟩)
      (cLw : PySem.W.codeIn K cdLw "_law_rows" = true) (kLw : PySem.W.keepIn K (.ref fLw) = true)
    (aLo : PySem.W.nsIn K mainGlobals "_law_room" = some (some (.ref fLo))) (lLo : K.lookup fLo = some ⟨ocLo, odLo, .func (PySem.W.fnOf "_law_room" "_law_room" (defArgs sLo) (defBody sLo) (defScope sLo) .none kVLo dcLo pmLo anLo cdLo ctLo), slLo⟩)
      (cLo : PySem.W.codeIn K cdLo "_law_room" = true) (kLo : PySem.W.keepIn K (.ref fLo) = true)
    (aLv : PySem.W.nsIn K mainGlobals "_law_is_vector" = some (some (.ref fLv))) (lLv : K.lookup fLv = some ⟨ocLv, odLv, .func (PySem.W.fnOf "_law_is_vector" "_law_is_vector" (defArgs sLv) (defBody sLv) (defScope sLv) .none kVLv dcLv pmLv anLv cdLv ctLv), slLv⟩)
      (cLv : PySem.W.codeIn K cdLv "_law_is_vector" = true) (kLv : PySem.W.keepIn K (.ref fLv) = true)
    (aLa : PySem.W.nsIn K mainGlobals "_law_all_vectors" = some (some (.ref fLa))) (lLa : K.lookup fLa = some ⟨ocLa, odLa, .func (PySem.W.fnOf "_law_all_vectors" "_law_all_vectors" (defArgs sLa) (defBody sLa) (defScope sLa) .none kVLa dcLa pmLa anLa cdLa ctLa), slLa⟩)
      (cLa : PySem.W.codeIn K cdLa "_law_all_vectors" = true) (kLa : PySem.W.keepIn K (.ref fLa) = true)
    (aLg : PySem.W.nsIn K mainGlobals "_law_is_shortage" = some (some (.ref fLg))) (lLg : K.lookup fLg = some ⟨ocLg, odLg, .func (PySem.W.fnOf "_law_is_shortage" "_law_is_shortage" (defArgs sLg) (defBody sLg) (defScope sLg) .none kVLg dcLg pmLg anLg cdLg ctLg), slLg⟩)
      (cLg : PySem.W.codeIn K cdLg "_law_is_shortage" = true) (kLg : PySem.W.keepIn K (.ref fLg) = true)
    (aLf : PySem.W.nsIn K mainGlobals "_law_found" = some (some (.ref fLf))) (lLf : K.lookup fLf = some ⟨ocLf, odLf, .func (PySem.W.fnOf "_law_found" "_law_found" (defArgs sLf) (defBody sLf) (defScope sLf) .none kVLf dcLf pmLf anLf cdLf ctLf), slLf⟩)
      (cLf : PySem.W.codeIn K cdLf "_law_found" = true) (kLf : PySem.W.keepIn K (.ref fLf) = true)
    (aLaw : PySem.W.nsIn K mainGlobals "law" = some (some (.ref fLaw))) (lLaw : K.lookup fLaw = some ⟨ocLaw, odLaw, .func (PySem.W.fnOf "law" "law" (defArgs sLaw) (defBody sLaw) (defScope sLaw) .none kVLaw dcLaw pmLaw anLaw cdLaw ctLaw), slLaw⟩)
      (cLaw : PySem.W.codeIn K cdLaw "law" = true) (kLaw : PySem.W.keepIn K (.ref fLaw) = true)
    (z0 : PySem.W.nsIn K mainGlobals "abs" = some none)
    (z1 : PySem.W.nsIn K mainGlobals "bool" = some none)
    (z2 : PySem.W.nsIn K mainGlobals "enumerate" = some none)
    (z3 : PySem.W.nsIn K mainGlobals "int" = some none)
    (z4 : PySem.W.nsIn K mainGlobals "isinstance" = some none)
    (z5 : PySem.W.nsIn K mainGlobals "len" = some none)
    (z6 : PySem.W.nsIn K mainGlobals "list" = some none)
    (z7 : PySem.W.nsIn K mainGlobals "max" = some none)
    (z8 : PySem.W.nsIn K mainGlobals "min" = some none)
    (z9 : PySem.W.nsIn K mainGlobals "range" = some none)
    (z10 : PySem.W.nsIn K mainGlobals "repr" = some none)
    (z11 : PySem.W.nsIn K mainGlobals "set" = some none)
    (z12 : PySem.W.nsIn K mainGlobals "sorted" = some none)
    (z13 : PySem.W.nsIn K mainGlobals "str" = some none)
    (z14 : PySem.W.nsIn K mainGlobals "sum" = some none)
    (z15 : PySem.W.nsIn K mainGlobals "tuple" = some none)
    (z16 : PySem.W.nsIn K mainGlobals "zip" = some none)
    {cNU : Addr} (aCNU : PySem.W.nsIn K mainGlobals "NoUnbeaten" = some (some (.ref cNU))) (iCNU : isCB K cNU = true)
    {cTM : Addr} (aCTM : PySem.W.nsIn K mainGlobals "TooMany" = some (some (.ref cTM))) (iCTM : isCB K cTM = true)
    {nmNU qnNU : Str} {NNU fiNU : Addr} {bsNU bmNU subNU : List Value} {snNU : List Str} {abNU : Bool} {colNU : Option Bool} {ddNU odiNU aniNU : Option Addr} {kaNU kbNU kcNU kdNU keNU : Option Value} {sliNU : Array (Option Value)} {ociNU kViNU dciNU pmiNU cdiNU ctiNU : Value}
    (lXNU : K.lookup cNU = some (excClassObj nmNU qnNU cNU NNU bsNU bmNU true snNU subNU abNU colNU ddNU kaNU kbNU kcNU kdNU keNU "ValueError.__new__")) (vXNU : PySem.HandSPX.refsVE bmNU = true)
    (nXNU : PySem.W.findIn K (.ref cNU) "__init__" = some (some (.ref fiNU))) (lINU : K.lookup fiNU = some ⟨ociNU, odiNU, .func (PySem.W.fnOf "__init__" "NoUnbeaten.__init__" (defArgs siNU) (defBody siNU) (defScope siNU) .none kViNU dciNU pmiNU aniNU cdiNU ctiNU), sliNU⟩) (cINU : PySem.W.codeIn K cdiNU "NoUnbeaten.__init__" = true) (kINU : PySem.W.keepIn K (.ref fiNU) = true) (bXNU : xf2B K cNU fiNU "crowded" "reserves" = true)
    (x1 : PySem.W.exmOne K (.ref cNU) (.ref cNU) = some true)
    (x2 : PySem.W.kitOne K (.ref cNU) (.ref cTM) = some false)
    : ∃ fd : FuncData, (∀ (s : Shared) (v : Value), BindsTo s fd ⟨[v], []⟩ [("_law_script", v)]) ∧ ∀ base : Heap, K.In base → base.Ns mainGlobals mg → FnG l.prog w K mg base 10 fa fd ["_law_script"] (spLaw K) := by
  have e := hfa.symm.trans (PySem.W.mg_of X G aLaw)
  cases e
  have FWh := fun_mk (st := sWhole) lWh cWh kWh
  have bWh := FWh.binds (ps := ["value"]) fun _ _ _ _ _ _ us hl => match us, hl with | [_], _ => rfl
  have gWh := PySem.W.mg_of X G aWh
  have FWi := fun_mk (st := sWithin) lWi cWi kWi
  have bWi := FWi.binds (ps := ["value", "least", "most"]) fun _ _ _ _ _ _ us hl => match us, hl with | [_, _, _], _ => rfl
  have gWi := PySem.W.mg_of X G aWi
  have FOp := fun_mk (st := sOpt) lOp cOp kOp
  have bOp := FOp.binds (ps := ["instance", "group", "option"]) fun _ _ _ _ _ _ us hl => match us, hl with | [_, _, _], _ => rfl
  have gOp := PySem.W.mg_of X G aOp
  have FDm := fun_mk (st := sDem) lDm cDm kDm
  have bDm := FDm.binds (ps := ["instance"]) fun _ _ _ _ _ _ us hl => match us, hl with | [_], _ => rfl
  have gDm := PySem.W.mg_of X G aDm
  have FEx := fun_mk (st := sExc) lEx cEx kEx
  have bEx := FEx.binds (ps := ["instance"]) fun _ _ _ _ _ _ us hl => match us, hl with | [_], _ => rfl
  have gEx := PySem.W.mg_of X G aEx
  have FFr := fun_mk (st := sFre) lFr cFr kFr
  have bFr := FFr.binds (ps := ["instance"]) fun _ _ _ _ _ _ us hl => match us, hl with | [_], _ => rfl
  have gFr := PySem.W.mg_of X G aFr
  have FCl := fun_mk (st := sCla) lCl cCl kCl
  have bCl := FCl.binds (ps := ["instance"]) fun _ _ _ _ _ _ us hl => match us, hl with | [_], _ => rfl
  have gCl := PySem.W.mg_of X G aCl
  have FCr := fun_mk (st := sCro) lCr cCr kCr
  have bCr := FCr.binds (ps := ["instance"]) fun _ _ _ _ _ _ us hl => match us, hl with | [_], _ => rfl
  have gCr := PySem.W.mg_of X G aCr
  have FRe := fun_mk (st := sRes) lRe cRe kRe
  have bRe := FRe.binds (ps := ["instance", "group"]) fun _ _ _ _ _ _ us hl => match us, hl with | [_, _], _ => rfl
  have gRe := PySem.W.mg_of X G aRe
  have FGr := fun_mk (st := sGr) lGr cGr kGr
  have bGr := FGr.binds (ps := ["instance"]) fun _ _ _ _ _ _ us hl => match us, hl with | [_], _ => rfl
  have gGr := PySem.W.mg_of X G aGr
  have FFc := fun_mk (st := sFc) lFc cFc kFc
  have bFc := FFc.binds (ps := ["instance"]) fun _ _ _ _ _ _ us hl => match us, hl with | [_], _ => rfl
  have gFc := PySem.W.mg_of X G aFc
  have FSs := fun_mk (st := sSs) lSs cSs kSs
  have bSs := FSs.binds (ps := ["routes", "post"]) fun _ _ _ _ _ _ us hl => match us, hl with | [_, _], _ => rfl
  have gSs := PySem.W.mg_of X G aSs
  have FAs := fun_mk (st := sAs) lAs cAs kAs
  have bAs := FAs.binds (ps := ["posts"]) fun _ _ _ _ _ _ us hl => match us, hl with | [_], _ => rfl
  have gAs := PySem.W.mg_of X G aAs
  have FSc := fun_mk (st := sSc) lSc cSc kSc
  have bSc := FSc.binds (ps := ["instance", "spare", "routes", "inside"]) fun _ _ _ _ _ _ us hl => match us, hl with | [_, _, _, _], _ => rfl
  have gSc := PySem.W.mg_of X G aSc
  have FOr := fun_mk (st := sOr) lOr cOr kOr
  have bOr := FOr.binds (ps := ["slacks", "signs", "count"]) fun _ _ _ _ _ _ us hl => match us, hl with | [_, _, _], _ => rfl
  have gOr := PySem.W.mg_of X G aOr
  have FIg := fun_mk (st := sIg) lIg cIg kIg
  have bIg := FIg.binds (ps := ["instance", "value"]) fun _ _ _ _ _ _ us hl => match us, hl with | [_, _], _ => rfl
  have gIg := PySem.W.mg_of X G aIg
  have FRr := fun_mk (st := sRr) lRr cRr kRr
  have bRr := FRr.binds (ps := ["instance", "group"]) fun _ _ _ _ _ _ us hl => match us, hl with | [_, _], _ => rfl
  have gRr := PySem.W.mg_of X G aRr
  have FSt := fun_mk (st := sSt) lSt cSt kSt
  have bSt := FSt.binds (ps := ["_law_script"]) fun _ _ _ _ _ _ us hl => match us, hl with | [_], _ => rfl
  have gSt := PySem.W.mg_of X G aSt
  have FDr := fun_mk (st := sDr) lDr cDr kDr
  have bDr := FDr.binds (ps := ["_law_deck", "_law_many"]) fun _ _ _ _ _ _ us hl => match us, hl with | [_, _], _ => rfl
  have gDr := PySem.W.mg_of X G aDr
  have FSm := fun_mk (st := sSame) lSm cSm kSm
  have bSm := FSm.binds (ps := ["_law_found_here", "_law_due"]) fun _ _ _ _ _ _ us hl => match us, hl with | [_, _], _ => rfl
  have gSm := PySem.W.mg_of X G aSm
  have FAm := fun_mk (st := sAm) lAm cAm kAm
  have bAm := FAm.binds (ps := ["_law_deck", "_law_top"]) fun _ _ _ _ _ _ us hl => match us, hl with | [_, _], _ => rfl
  have gAm := PySem.W.mg_of X G aAm
  have FIn := fun_mk (st := sIn) lIn cIn kIn
  have bIn := FIn.binds (ps := ["_law_deck", "_law_most_posts", "_law_most_groups", "_law_top"]) fun _ _ _ _ _ _ us hl => match us, hl with | [_, _, _, _], _ => rfl
  have gIn := PySem.W.mg_of X G aIn
  have FLd := fun_mk (st := sLd) lLd cLd kLd
  have bLd := FLd.binds (ps := ["_law_instance_here"]) fun _ _ _ _ _ _ us hl => match us, hl with | [_], _ => rfl
  have gLd := PySem.W.mg_of X G aLd
  have FLr := fun_mk (st := sLr) lLr cLr kLr
  have bLr := FLr.binds (ps := ["_law_instance_here", "_law_group"]) fun _ _ _ _ _ _ us hl => match us, hl with | [_, _], _ => rfl
  have gLr := PySem.W.mg_of X G aLr
  have FLw := fun_mk (st := sLw) lLw cLw kLw
  have bLw := FLw.binds (ps := ["_law_instance_here"]) fun _ _ _ _ _ _ us hl => match us, hl with | [_], _ => rfl
  have gLw := PySem.W.mg_of X G aLw
  have FLo := fun_mk (st := sLo) lLo cLo kLo
  have bLo := FLo.binds (ps := ["_law_instance_here"]) fun _ _ _ _ _ _ us hl => match us, hl with | [_], _ => rfl
  have gLo := PySem.W.mg_of X G aLo
  have FLv := fun_mk (st := sLv) lLv cLv kLv
  have bLv := FLv.binds (ps := ["_law_instance_here", "_law_value"]) fun _ _ _ _ _ _ us hl => match us, hl with | [_, _], _ => rfl
  have gLv := PySem.W.mg_of X G aLv
  have FLa := fun_mk (st := sLa) lLa cLa kLa
  have bLa := FLa.binds (ps := ["_law_instance_here"]) fun _ _ _ _ _ _ us hl => match us, hl with | [_], _ => rfl
  have gLa := PySem.W.mg_of X G aLa
  have FLg := fun_mk (st := sLg) lLg cLg kLg
  have bLg := FLg.binds (ps := ["_law_instance_here", "_law_crowd", "_law_room_here"]) fun _ _ _ _ _ _ us hl => match us, hl with | [_, _, _], _ => rfl
  have gLg := PySem.W.mg_of X G aLg
  have FLf := fun_mk (st := sLf) lLf cLf kLf
  have bLf := FLf.binds (ps := ["_law_instance_here", "_law_group"]) fun _ _ _ _ _ _ us hl => match us, hl with | [_, _], _ => rfl
  have gLf := PySem.W.mg_of X G aLf
  have FLaw := fun_mk (st := sLaw) lLaw cLaw kLaw
  have m_abs := PySem.W.mg_none_of X G z0
  have m_bool := PySem.W.mg_none_of X G z1
  have m_enumerate := PySem.W.mg_none_of X G z2
  have m_int := PySem.W.mg_none_of X G z3
  have m_isinstance := PySem.W.mg_none_of X G z4
  have m_len := PySem.W.mg_none_of X G z5
  have m_list := PySem.W.mg_none_of X G z6
  have m_max := PySem.W.mg_none_of X G z7
  have m_min := PySem.W.mg_none_of X G z8
  have m_range := PySem.W.mg_none_of X G z9
  have m_repr := PySem.W.mg_none_of X G z10
  have m_set := PySem.W.mg_none_of X G z11
  have m_sorted := PySem.W.mg_none_of X G z12
  have m_str := PySem.W.mg_none_of X G z13
  have m_sum := PySem.W.mg_none_of X G z14
  have m_tuple := PySem.W.mg_none_of X G z15
  have m_zip := PySem.W.mg_none_of X G z16
  have gNU := PySem.W.mg_of X G aCNU
  have INU := isCB_ok iCNU
  have gTM := PySem.W.mg_of X G aCTM
  have ITM := isCB_ok iCTM
  have XNU := xf2B_ok bXNU ⟨_, _, _, _, _, _, _, _, _, _, _, _, _, _, _, lXNU, vXNU⟩
  have FiNU := fun_mk (st := siNU) lINU cINU kINU
  have biNU := FiNU.binds (ps := ["self", "crowded", "reserves"]) fun _ _ _ _ _ _ us hl => match us, hl with | [_, _, _], _ => rfl
  refine ⟨PySem.W.fnOf "law" "law" (defArgs sLaw) (defBody sLaw) (defScope sLaw) .none kVLaw dcLaw pmLaw anLaw cdLaw ctLaw, fun s v => .of_eq rfl, fun base _ _ => ?_⟩
  have GiNU := ok_iNU (P := l.prog) (w := w) (base := base) (mg := mg) FiNU XNU
  have GWh := ok_whole (P := l.prog) (w := w) (base := base) (mg := mg) (k := 0) FWh m_isinstance m_int m_bool
  have GWi := ok_within (P := l.prog) (w := w) (base := base) (mg := mg) (k := 0) FWi FWh bWh gWh GWh
  have GOp := ok_opt (P := l.prog) (w := w) (base := base) (mg := mg) (k := 0) FOp m_len
  have GDm := ok_dem (P := l.prog) (w := w) (base := base) (mg := mg) (k := 0) FDm m_len m_tuple
  have GEx := ok_exc (P := l.prog) (w := w) (base := base) (mg := mg) (k := 0) FEx FDm bDm gDm GDm m_tuple m_zip m_max
  have GFr := ok_fre (P := l.prog) (w := w) (base := base) (mg := mg) (k := 0) FFr FDm bDm gDm GDm m_tuple m_zip m_max
  have GCl := ok_cla (P := l.prog) (w := w) (base := base) (mg := mg) (k := 0) FCl FFr bFr gFr GFr m_tuple m_enumerate
  have GCr := ok_cro (P := l.prog) (w := w) (base := base) (mg := mg) (k := 0) FCr FEx bEx gEx GEx m_tuple m_enumerate
  have GRe := ok_res (P := l.prog) (w := w) (base := base) (mg := mg) (k := 0) FRe FCl bCl gCl GCl m_range m_len
  have GSm := ok_same (P := l.prog) (w := w) (base := base) (mg := mg) FSm bSm gSm m_tuple m_list m_isinstance m_len m_range m_str m_int m_bool 3
  have GGr := ok_Gr (P := l.prog) (w := w) (base := base) (mg := mg) FGr FCr bCr gCr GCr FOp bOp gOp GOp FRe bRe gRe GRe m_len m_range
  have GSs := ok_Ss (P := l.prog) (w := w) (base := base) (mg := mg) FSs
  have GAs := ok_As (P := l.prog) (w := w) (base := base) (mg := mg) FAs
  have GOr := ok_Or (P := l.prog) (w := w) (base := base) (mg := mg) FOr m_zip m_max m_min
  have GSc := ok_ScN (P := l.prog) (w := w) (base := base) (mg := mg) FSc gNU XNU GiNU biNU m_int m_sum m_zip m_tuple
  have GFc := ok_FcN (P := l.prog) (w := w) (base := base) (mg := mg) FFc FGr bGr gGr GGr FDm bDm gDm GDm FSs bSs gSs GSs FAs bAs gAs GAs FSc bSc gSc GSc m_zip m_enumerate m_list
  have GIg := ok_Ig (P := l.prog) (w := w) (base := base) (mg := mg) FIg FWi bWi gWi GWi m_len
  have GRr := ok_RrN (P := l.prog) (w := w) (base := base) (mg := mg) FRr FIg bIg gIg GIg FFc bFc gFc GFc FOr bOr gOr GOr
  have GSt := ok_St (P := l.prog) (w := w) (base := base) (mg := mg) FSt m_abs m_len m_int
  have GDr := ok_Dr (P := l.prog) (w := w) (base := base) (mg := mg) FDr
  have GAm := ok_Am (P := l.prog) (w := w) (base := base) (mg := mg) FAm FDr bDr gDr GDr m_min
  have GIn := ok_In (P := l.prog) (w := w) (base := base) (mg := mg) FIn FDr bDr gDr GDr FAm bAm gAm GAm m_range m_list m_len m_min m_tuple
  have GLd := ok_Ld (P := l.prog) (w := w) (base := base) (mg := mg) FLd m_len
  have GLr := ok_Lr (P := l.prog) (w := w) (base := base) (mg := mg) FLr FLd bLd gLd GLd m_len m_range
  have GLw := ok_Lw (P := l.prog) (w := w) (base := base) (mg := mg) FLw FLd bLd gLd GLd FLr bLr gLr GLr m_enumerate
  have GLo := ok_Lo (P := l.prog) (w := w) (base := base) (mg := mg) FLo FLd bLd gLd GLd m_zip m_max
  have GLv := ok_Lv (P := l.prog) (w := w) (base := base) (mg := mg) FLv FLo bLo gLo GLo FLw bLw gLw GLw m_tuple m_isinstance m_len m_zip m_bool m_int m_range
  have GLa := ok_La (P := l.prog) (w := w) (base := base) (mg := mg) FLa FLw bLw gLw GLw FLv bLv gLv GLv m_enumerate m_int m_range
  have GLdH := ok_LdH (P := l.prog) (w := w) (base := base) (mg := mg) FLd m_len
  have GLrH := ok_LrH (P := l.prog) (w := w) (base := base) (mg := mg) FLr FLd bLd gLd GLdH m_len m_range
  have GLwH := ok_LwH (P := l.prog) (w := w) (base := base) (mg := mg) FLw FLd bLd gLd GLdH FLr bLr gLr GLrH m_enumerate
  have GLoH := ok_LoH (P := l.prog) (w := w) (base := base) (mg := mg) FLo FLd bLd gLd GLdH m_zip m_max
  have GLgH := ok_LgH (P := l.prog) (w := w) (base := base) (mg := mg) FLg FLo bLo gLo GLoH FLd bLd gLd GLdH FLw bLw gLw GLwH m_tuple m_isinstance m_bool m_len m_range m_list m_set m_sorted m_sum
  have GLf := ok_Lf (P := l.prog) (w := w) (base := base) (mg := mg) FLf FRr bRr gRr GRr FLg bLg gLg GLgH gNU gTM INU XNU x1 x2 m_isinstance
  exact ok_Law (P := l.prog) (w := w) (base := base) FLaw FSt bSt gSt GSt FDr bDr gDr GDr FIn bIn gIn GIn FLa bLa gLa GLa FLf bLf gLf GLf FSm bSm gSm GSm m_range m_repr m_len m_min m_max
end Pv
open PySem PySem.W PyProof.Rows
set_option maxRecDepth 100000 in
set_option maxHeartbeats 0 in
theorem PySem.Challenge.cw_postvote_k33_ranges_of_small_instances_holds : PySem.Challenge.rw_postvote_k33_ranges_of_small_instances.Holds := by
  w_on; o_law; k_head; (case hw => w_witness2)
  k_fill
  refine Pv.walkG (l := PySem.Challenge.rw_postvote_k33_ranges_of_small_instances) (n := 63) (k := 10) (x := "_law_script") (sp := fun w => Pv.spLaw _) rfl (by decide) rfl ⟨rfl, by decide, by decide⟩ (fun w h Y => PySem.W.kIn_of Y) ?F (fun _ _ a ns hl _ _ hS => ⟨a, ns, rfl, hS, hl, fun _ => rfl⟩)
  case F =>
    intro w mg fa h KX G hmg
    refine' Pv.all_mk KX G hmg ?aWh ?lWh ?cWh ?kWh ?aWi ?lWi ?cWi ?kWi ?aOp ?lOp ?cOp ?kOp ?aDm ?lDm ?cDm ?kDm ?aEx ?lEx ?cEx ?kEx ?aFr ?lFr ?cFr ?kFr ?aCl ?lCl ?cCl ?kCl ?aCr ?lCr ?cCr ?kCr ?aRe ?lRe ?cRe ?kRe ?aGr ?lGr ?cGr ?kGr ?aFc ?lFc ?cFc ?kFc ?aSs ?lSs ?cSs ?kSs ?aAs ?lAs ?cAs ?kAs ?aSc ?lSc ?cSc ?kSc ?aOr ?lOr ?cOr ?kOr ?aIg ?lIg ?cIg ?kIg ?aRr ?lRr ?cRr ?kRr ?aSt ?lSt ?cSt ?kSt ?aDr ?lDr ?cDr ?kDr ?aSm ?lSm ?cSm ?kSm ?aAm ?lAm ?cAm ?kAm ?aIn ?lIn ?cIn ?kIn ?aLd ?lLd ?cLd ?kLd ?aLr ?lLr ?cLr ?kLr ?aLw ?lLw ?cLw ?kLw ?aLo ?lLo ?cLo ?kLo ?aLv ?lLv ?cLv ?kLv ?aLa ?lLa ?cLa ?kLa ?aLg ?lLg ?cLg ?kLg ?aLf ?lLf ?cLf ?kLf ?aLaw ?lLaw ?cLaw ?kLaw ?z0 ?z1 ?z2 ?z3 ?z4 ?z5 ?z6 ?z7 ?z8 ?z9 ?z10 ?z11 ?z12 ?z13 ?z14 ?z15 ?z16 ?aCNU ?iCNU ?aCTM ?iCTM ?lXNU ?vXNU ?nXNU ?lINU ?cINU ?kINU ?bXNU ?x1 ?x2
    (case aWh => k_is); (case lWh => k_is); (case cWh => k_is); (case kWh => k_is); (case aWi => k_is); (case lWi => k_is); (case cWi => k_is); (case kWi => k_is); (case aOp => k_is); (case lOp => k_is); (case cOp => k_is); (case kOp => k_is); (case aDm => k_is); (case lDm => k_is); (case cDm => k_is); (case kDm => k_is); (case aEx => k_is); (case lEx => k_is); (case cEx => k_is); (case kEx => k_is); (case aFr => k_is); (case lFr => k_is); (case cFr => k_is); (case kFr => k_is); (case aCl => k_is); (case lCl => k_is); (case cCl => k_is); (case kCl => k_is); (case aCr => k_is); (case lCr => k_is); (case cCr => k_is); (case kCr => k_is); (case aRe => k_is); (case lRe => k_is); (case cRe => k_is); (case kRe => k_is); (case aGr => k_is); (case lGr => k_is); (case cGr => k_is); (case kGr => k_is); (case aFc => k_is); (case lFc => k_is); (case cFc => k_is); (case kFc => k_is); (case aSs => k_is); (case lSs => k_is); (case cSs => k_is); (case kSs => k_is); (case aAs => k_is); (case lAs => k_is); (case cAs => k_is); (case kAs => k_is); (case aSc => k_is); (case lSc => k_is); (case cSc => k_is); (case kSc => k_is); (case aOr => k_is); (case lOr => k_is); (case cOr => k_is); (case kOr => k_is); (case aIg => k_is); (case lIg => k_is); (case cIg => k_is); (case kIg => k_is); (case aRr => k_is); (case lRr => k_is); (case cRr => k_is); (case kRr => k_is); (case aSt => k_is); (case lSt => k_is); (case cSt => k_is); (case kSt => k_is); (case aDr => k_is); (case lDr => k_is); (case cDr => k_is); (case kDr => k_is); (case aSm => k_is); (case lSm => k_is); (case cSm => k_is); (case kSm => k_is); (case aAm => k_is); (case lAm => k_is); (case cAm => k_is); (case kAm => k_is); (case aIn => k_is); (case lIn => k_is); (case cIn => k_is); (case kIn => k_is); (case aLd => k_is); (case lLd => k_is); (case cLd => k_is); (case kLd => k_is); (case aLr => k_is); (case lLr => k_is); (case cLr => k_is); (case kLr => k_is); (case aLw => k_is); (case lLw => k_is); (case cLw => k_is); (case kLw => k_is); (case aLo => k_is); (case lLo => k_is); (case cLo => k_is); (case kLo => k_is); (case aLv => k_is); (case lLv => k_is); (case cLv => k_is); (case kLv => k_is); (case aLa => k_is); (case lLa => k_is); (case cLa => k_is); (case kLa => k_is); (case aLg => k_is); (case lLg => k_is); (case cLg => k_is); (case kLg => k_is); (case aLf => k_is); (case lLf => k_is); (case cLf => k_is); (case kLf => k_is); (case aLaw => k_is); (case lLaw => k_is); (case cLaw => k_is); (case kLaw => k_is); (case z0 => k_is); (case z1 => k_is); (case z2 => k_is); (case z3 => k_is); (case z4 => k_is); (case z5 => k_is); (case z6 => k_is); (case z7 => k_is); (case z8 => k_is); (case z9 => k_is); (case z10 => k_is); (case z11 => k_is); (case z12 => k_is); (case z13 => k_is); (case z14 => k_is); (case z15 => k_is); (case z16 => k_is); (case aCNU => k_is); (case iCNU => kernel_rfl); (case aCTM => k_is); (case iCTM => kernel_rfl); (case lXNU => k_is); (case vXNU => kernel_rfl); (case nXNU => k_is); (case lINU => k_is); (case cINU => k_is); (case kINU => k_is); (case bXNU => kernel_rfl); (case x1 => kernel_rfl); (case x2 => kernel_rfl)
