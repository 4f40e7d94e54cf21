import PyProof.Rows.All
import Wide.All
import OpenK.AllK
import Wide.FinOn
import HandS.ForMost
import HandS.Conv
import HandS.Zip
import HandS.Walk
import HandS.IsInst
import HandS.Wide
import HandS.EndBits
import HandS.TupAny
import HandS.TupMul
import HandS.Style
import HandS.Deep
import HandS.NoneIn
import HandS.TupLe
import PySem.Challenge.RW_postvote_k04_loads_and_counts
set_option Elab.async false
set_option linter.all false
set_option maxRecDepth 100000
namespace Pv
open PySem PySem.Spec PyProof.Rows L2

/-! heaps -/
theorem upNew {H : Hp} {p b : Addr} {o z : HO} (np : H p = none) (h : H b = some z) : upd H p o b = some z := by
  rw [upd_ne (ne_of_none h np)]; exact h
theorem sameNew {H : Hp} {p : Addr} {o : HO} (np : H p = none) : Same H (upd H p o) := fun _ _ e => upNew np e

/-! a def that is called where no repr is under way -/
structure FnG (P : Program) (w : World) (K : PySem.W.Frag) (mg : Str → Option Value) (base : Heap) (k : Nat) (f : Addr) (fd : FuncData) (ps : List Str) (sp : Sp) : Prop where
  cnt : ∀ vs H Q E, sp vs H Q E → vs.length = ps.length
  go : ∀ (A : Around) (outer : List Env) (s : Shared) (H : Hp) (args : Args) (us : List Value) (vs : List V) (Q : VK) (E : XK),
    A.guards = some [] → Room k A → Env0 P w K mg base A outer s H → BindsTo s fd args (ps.zip us) → Vals vs us →
    sp vs H Q E → codeAny (model P w) A (.call (.ref f) args) (CR CX0 outer P w H s Q E) s
section
variable {P : Program} {w : World} {K : PySem.W.Frag} {mg : Str → Option Value} {base : Heap}
theorem okG {x qual : Str} {st : Stmt} {f : Addr} {fd : FuncData} {N ps : List Str} {k : Nat} {sp : Sp}
    (F : Fun K x qual st f fd) (S : FnScope N ps (defScope st)) (cnt : ∀ vs H Q E, sp vs H Q E → vs.length = ps.length)
    (hbody : ∀ (cdv : Value) (A : Around) (outer : List Env) (s : Shared) (H : Hp) (vs : List V) (Q : VK) (E : XK),
      A.guards = some [] → Room k (A.deeper (envOfC qual (defScope st) s.heap.objs.size f cdv)) → sp vs H Q E →
      ∃ t, PSs (cxOf CX0 P w K mg base N qual (defScope st) f cdv A outer s H E).nox (defBody st) t ∧
        t { nx := fun _ H' => Q .non H', rt := Q } (start N vs) H) : FnG P w K mg base (k + 1) f fd ps sp := by
  obtain ⟨oc, od, kV, doc, pm, an, cdv, ct, osl, rfl, lk, hcd⟩ := F.ex
  refine ⟨cnt, ?_⟩
  intro A outer s H args us vs Q E hgd hr e0 hb r hsp
  have hl := cnt vs H Q E hsp
  have kk : ∀ b o, base.get? b = some o → s.heap.get? b = some o := fun b o e => (e0.bs b o e).1
  have KX : K.In s.heap := e0.mod.kin.keeps kk
  have lim : s.heap.NoLimit := e0.mod.nolimit.keeps kk
  refine codeAny_call_function hr.depth (KX _ _ lk) rfl S.co S.gen rfl (PySem.W.codeRec_of KX hcd)
    (hb _ _ _ _ (wpAny_newFunctionEnv_cells S.kind ?_ ?_))
  · rintro ⟨n, v⟩ hy
    rcases S.par n (List.of_mem_zip hy).1 with q | q
    · left; exact q
    · right; exact ⟨q, PySem.W.cellsFrom_some _ _ _ (Or.inl q)⟩
  · intro env he s1 x
    cases he
    refine ⟨lim.keeps x.toInCall.keep, ?_⟩
    apply codeAny_func
    obtain ⟨t, ht0, hq⟩ := hbody cdv A outer s H vs Q E hgd (hr.deeper _) hsp
    have ht := ht0.nox
    have I := inv_start (CX := CX0) (f := f) (qual := qual) (E := E) S hr.hd e0 hl r x
    refine wpAny_mono (ht.run [] s1 (start N vs) H _ I hq) ?_ (fun _ _ z => z)
    intro fl s' hs
    cases fl with
    | ret u => obtain ⟨v, σ', H', J, rv, q⟩ := hs; exact ⟨v, H', J.os, J.bare, J.base, J.hok, rv, q⟩
    | next => obtain ⟨σ', H', J, q⟩ := hs; exact ⟨V.non, H', J.os, J.bare, J.base, J.hok, rfl, q⟩
    | brk => obtain ⟨_, _, _, q⟩ := hs; exact q.elim
    | cont => obtain ⟨_, _, _, q⟩ := hs; exact q.elim
end
section
variable {X : Cx} {k : Nat} {f : Addr} {fd : FuncData} {ps : List Str} {sp : Sp} {x : Str} {p pos : Pos} {e : Expr} {es : List Expr} {t : TA}
theorem pe_callG (F : FnG X.prog X.w X.K X.mg X.base k f fd ps sp) (hgd : X.A.guards = some []) (hr : Room k X.A) (hg : Gl X x)
    (hm : X.mg x = some (.ref f)) (hk : PySem.W.keepIn X.K (.ref f) = true) (hb : Binds X.K fd ps []) (ha : PA X (e :: es) t)
    (hdb : (x == ("__debug__" : Str)) = false := by decide) (he : starEach (e :: es) X.env = (false, eval e X.env) :: starEach es X.env := by rfl)
    (hpl : (backTo pos (starEach es X.env)).any (·.1) = false := by rfl) :
    PE X (.Call (.Name x p) (e :: es) [] pos) (tCall sp [] E0 t) := by
  constructor
  intro pins s σ H Q I h
  refine wpAny_Call_Name_kw (ld_glob I hg hm ?_ hdb)
  refine PySem.W.callWith_K (h₀ := X.base) I.ok.mod.kin hk (thn (ha.run pos pins s σ H _ I h) ?_) he hpl
  rintro us s1 ⟨vs, H1, I1, r, q⟩
  refine ⟨I1.kIn, ?_⟩
  have r2 : Vals (vs ++ []) (us ++ []) := r.append .nil
  have hl : (us ++ []).length = ps.length := by rw [← r2.length]; exact F.cnt _ _ _ _ q
  refine wpAny_call (codeAny_mono (F.go X.A X.stack s1 H1 ⟨us, []⟩ (us ++ []) (vs ++ []) Q E0 hgd hr I1.env0 (hb s1 us I1.kIn hl) r2 q) ?_)
  intro rr s' hq
  match rr, hq with
  | .error e, hq => exact hq.elim
  | .ok (.ret u), hq => exact I1.after hq
  | .ok .next, hq => exact hq.elim
  | .ok .brk, hq => exact hq.elim
  | .ok .cont, hq => exact hq.elim
end
theorem lawG {P : Program} {w : World} {K : PySem.W.Frag} {mg mb : Str → Option Value} {k : Nat} {fa a : Addr} {fd : FuncData} {x : Str} {sp : Sp}
    {s₁ : Shared} {vs : List Value} {ns : List Int} (KX : K.In s₁.heap) (hns : s₁.heap.Ns mainGlobals mg) (hb : s₁.heap.Ns builtinsNs mb)
    (hbb : ∀ x : Str, x ≠ "__name__" → mb x = bootBuiltins x) (hlim : s₁.heap.NoLimit) (hg : s₁.gens = #[])
    (ha : s₁.heap.get? a = some { cls := .type "list", data := .seq vs.toArray }) (hi : IntsAre vs ns) (hl : ns.length ≤ sizeLine)
    (hr : Room k callerA) (F : ∀ base : Heap, K.In base → base.Ns mainGlobals mg → FnG P w K mg base k fa fd [x] sp)
    (hbind : ∀ (s : Shared) (u : Value), BindsTo s fd ⟨[u], []⟩ [(x, u)])
    (hsp : ∀ H : Hp, Only H → SqL K H a (ns.map V.int) → sp [.ref a] H (fun v _ => v = .bl true) E0) :
    codeAny (model P w) callerA (.call (.ref fa) ⟨[.ref a], []⟩)
      (fun r s' => r = .ok (.ret (.bool true)) ∧ OldK s₁.heap s'.heap ∧ s'.os = s₁.os ∧ AllBare s'.gens) s₁ := by
  have rv := vals_ints hi
  have lenV := hi.length
  have core : ∀ H : Hp, Only H → SqL K H a (ns.map V.int) → HOk P w H s₁.heap → (∀ b, H b ≠ none → b = a) → (H a ≠ none → K.lookup a = none) →
      codeAny (model P w) callerA (.call (.ref fa) ⟨[.ref a], []⟩)
        (fun r s' => r = .ok (.ret (.bool true)) ∧ OldK s₁.heap s'.heap ∧ s'.os = s₁.os ∧ AllBare s'.gens) s₁ := by
    intro H hO hS hok hA hK
    have noD : ∀ {b : Addr} {o : Obj} {es : Array DictEntry} {ep : Nat}, s₁.heap.get? b = some o → o.data = .dict es ep → H b = none := by
      intro b o es ep e d
      match q : H b with
      | none => rfl
      | some u =>
        obtain rfl : b = a := hA b (by rw [q]; simp)
        rw [ha] at e
        cases e
        exact absurd d (by intro z; cases z)
    have nsK : ∀ {b : Addr} {m : Str → Option Value}, s₁.heap.Ns b m → (hidT s₁.heap H).Ns b m := by
      rintro b m ⟨o, es, ep, e, d, r⟩
      exact ⟨o, es, ep, hidT_get e (noD e d), d, r⟩
    have hKb : K.In (hidT s₁.heap H) := by
      intro b o e
      refine hidT_get (KX b o e) ?_
      match q : H b with
      | none => rfl
      | some u =>
        obtain rfl : b = a := hA b (by rw [q]; simp)
        rw [hK (by rw [q]; simp)] at e
        cases e
    have hM : Mod K mg (hidT s₁.heap H) := by
      obtain ⟨mc, h1, h2⟩ := hlim
      exact ⟨hKb, nsK hns, ⟨mb, nsK hb, hbb⟩, ⟨mc, nsK h1, h2⟩⟩
    have e0 : Env0 P w K mg (hidT s₁.heap H) callerA [] s₁ H :=
      ⟨rfl, hM, fun b o e => of_hidT e, Nat.le_of_eq (hidT_size _ _), trivial, (fun b hb => by cases hb), hok, .of_eq hg⟩
    refine codeAny_mono ((F _ hKb (nsK hns)).go callerA [] s₁ H ⟨[.ref a], []⟩ [.ref a] [.ref a] _ _ rfl hr e0 (hbind s₁ (.ref a)) (.cons rfl .nil) (hsp H hO hS)) ?_
    intro r s' h
    match r, h with
    | .error e, h => exact h.elim
    | .ok .next, h => exact h.elim
    | .ok .brk, h => exact h.elim
    | .ok .cont, h => exact h.elim
    | .ok (.ret u), h =>
      obtain ⟨v, H', os, bare, un, hok', r', q⟩ := h
      cases (show v = V.bl true from q)
      cases (show u = Value.bool true from r')
      refine ⟨rfl, OldK.of_keep ?_, os, bare⟩
      intro b o e
      match q : H b with
      | none => exact un.keep b o e q (by intro z; cases z) (by intro z; cases z)
      | some u =>
        rcases hO b with z | ⟨ob, xs, z⟩
        · rw [q] at z; cases z
        · obtain ⟨e1, _⟩ := hok b _ z
          obtain ⟨e2, _⟩ := hok' b _ (un.frzs b ob _ z)
          rw [e] at e1
          cases e1
          exact e2
  match hk : K.lookup a with
  | some o =>
    have e := KX a o hk
    rw [ha] at e
    cases e
    refine core (fun _ => none) (fun _ => .inl rfl) (.inr ⟨_, vs.toArray, _, hk, rfl, rfl, rfl, ?_, by simpa using rv⟩) (fun b u z => by cases z) (fun b z => absurd rfl z) (fun z => absurd rfl z)
    rw [List.size_toArray, lenV]; exact hl
  | none =>
    let HA : Hp := fun b => if b = a then some (.frz { cls := .type "list", data := .seq vs.toArray } (.lst (ns.map V.int))) else none
    have at_a : HA a = some (.frz { cls := .type "list", data := .seq vs.toArray } (.lst (ns.map V.int))) := if_pos rfl
    have at_ne : ∀ b, b ≠ a → HA b = none := fun b h => if_neg h
    refine core HA ?_ (.inl (.inr ⟨_, at_a⟩)) ?_ ?_ (fun _ => hk)
    · intro b
      by_cases hb : b = a
      · subst hb; exact .inr ⟨_, _, at_a⟩
      · exact .inl (at_ne b hb)
    · intro b u z
      by_cases hb : b = a
      · subst hb
        rw [at_a] at z
        cases z
        exact ⟨ha, by rw [List.length_map]; exact hl, vs, _, rv, ha⟩
      · rw [at_ne b hb] at z; cases z
    · intro b z
      by_cases hb : b = a
      · exact hb
      · exact absurd (at_ne b hb) z
theorem walkG {l : PySem.W.OpenLaw} {n k : Nat} {q : Program} {loose : List Str} {XP : (Str → Option Value) → Heap → Prop} {YP : World → Heap → Prop}
    {d : DefRec} {K : Params → PySem.W.Frag} {sp : World → Sp} {x : Str} (hn : l.most = some n) (hn2 : n ≤ sizeLine) (hdf : d.params.defaults = [])
    (hr : Room k callerA) (hY : ∀ (w : World) (h : Heap), YP w h → (K w.params).In h)
    (F : ∀ (w : World) (mg : Str → Option Value) (fa : Addr) (h : Heap), (K w.params).In h → h.Ns mainGlobals mg → mg d.name = some (.ref fa) →
      ∃ fd : FuncData, (∀ (s : Shared) (u : Value), BindsTo s fd ⟨[u], []⟩ [(x, u)]) ∧
        ∀ base : Heap, (K w.params).In base → base.Ns mainGlobals mg → FnG l.prog w (K w.params) mg base k fa fd [x] (sp w))
    (hsp : ∀ (w : World) (H : Hp) (a : Addr) (ns : List Int), ns.length ≤ n → (∀ z ∈ ns, Builtin.Int.intBits z ≤ 1048576) → Only H →
      SqL (K w.params) H a (ns.map V.int) → sp w [.ref a] H (fun v _ => v = .bl true) E0) :
    PySem.W.WalkO q loose XP YP l.row.toRowW d [] (fun f vs => PySem.call f vs) := by
  refine Att.attach_callB hn hdf ?_
  intro w s₀ s₁ mg mb fa o pm cd doc a vs ns G Y ho hd hcd hmg hobj hints hlen hbits hg
  have KX := hY w _ Y
  obtain ⟨fd, hb, hF⟩ := F w mg fa _ KX G.T.g hmg
  exact lawG KX G.T.g G.T.b G.T.builtins G.T.nolimit hg hobj hints (Nat.le_trans hlen hn2) hr hF hb (fun H hO hS => hsp w H a ns hlen hbits hO hS)

/-! repr of data -/
theorem call_reprD {X : Cx} (hg : X.A.guards = some []) (hu : X.A.units + 70 < cLine) : CallR X (.builtin "repr")
    (fun xs H Q => ∃ a d, xs = [.ref a] ∧ Dp X.K H (.ref a) d ∧ d.showable = true ∧ d.hasDict = false ∧ d.depth ≤ 60 ∧
      d.shown.length ≤ sizeLine ∧ Q (.str d.shown) H) := by
  intro pins s σ H xs us Q I r h
  obtain ⟨a, d, rfl, hd, h1, h2, h3, h4, q⟩ := h
  obtain ⟨u, rfl, rfl⟩ := vals1 r
  obtain ⟨as, rd⟩ := Dp.reads I d _ _ hd rfl
  exact repr_of_reads' rd h1 (PyData.noDict_hsm h2) hg (by omega) (fun _ _ e => e) (fun h' u tk hk => ⟨.str _, H, I.kept hk, ⟨_, rfl⟩, q⟩) h4
end Pv

namespace Pv
open PySem PySem.Spec PyProof.Rows L2
theorem tup_mul0 (l : Addr) (items : Array Value) (n : Nat) (dd : Option Addr) (sl : Array (Option Value)) (u : Tok) (hi : items.isEmpty = false) :
    Meets (Builtin.«tuple.__mul__» ⟨[.ref l, .int ((0 : Nat) : Int) u], []⟩) (fun _ R s => s.heap.get? l = some { cls := .type "tuple", dict := dd, data := .seq items n, slots := sl } ∧
      R (.ok (.ret (Value.ref s.heap.objs.size))) { s with heap := s.heap.push { cls := Value.type "tuple", data := Data.seq #[] }, toks := s.toks }) :=
  .of_wp fun prog w A R s h => by
    obtain ⟨hp, g, d, tk, os⟩ := s
    obtain ⟨hl, h⟩ := h
    have f1 := AutoSeq1.idx_int
    wp_walk using AutoSeq1.wpAny_loadPart' hl
    repeat (first
      | (refine wpAny_ite_false (decide_eq_false (by simp [hi])) ?_; wp_walk using AutoSeq1.wpAny_loadPart' hl)
      | (refine wpAny_ite_true (decide_eq_true (by simp [hi])) ?_; wp_walk using AutoSeq1.wpAny_loadPart' hl))
    exact ⟨_, rfl, h⟩
theorem tup_mul1 (l : Addr) (items : Array Value) (n : Nat) (dd : Option Addr) (sl : Array (Option Value)) (u : Tok) :
    Meets (Builtin.«tuple.__mul__» ⟨[.ref l, .int ((1 : Nat) : Int) u], []⟩) (fun _ R s => s.heap.get? l = some { cls := .type "tuple", dict := dd, data := .seq items n, slots := sl } ∧
      R (.ok (.ret (Value.ref l))) s) :=
  .of_wp fun prog w A R s h => by
    obtain ⟨hp, g, d, tk, os⟩ := s
    obtain ⟨hl, h⟩ := h
    have f1 := AutoSeq1.idx_int
    wp_walk using AutoSeq1.wpAny_loadPart' hl
    repeat (first
      | (refine wpAny_ite_false (decide_eq_false (by simp)) ?_; wp_walk using AutoSeq1.wpAny_loadPart' hl)
      | (refine wpAny_ite_true (decide_eq_true (by simp)) ?_; wp_walk using AutoSeq1.wpAny_loadPart' hl))
    exact ⟨_, rfl, h⟩
def rRepA (K : PySem.W.Frag) : R2 := fun x y H Q => ∃ (l : Addr) (k : Nat) (xs : List V), x = .ref l ∧ y = .int k ∧ SqT K H l xs ∧ xs ≠ [] ∧ k ≤ 1000 ∧ xs.length ≤ 1000 ∧
    (k = 1 → Q (.ref l) H) ∧ (k ≠ 1 → ∀ p, H p = none → Q (.ref p) (upd H p (.tup (List.replicate k xs).flatten)))
abbrev RC := List V → Hp → VK → Prop
def rLenQ (K : PySem.W.Frag) : RC := fun xs H Q => ∃ (p : Addr) (ys : List V), xs = [.ref p] ∧ (SqL K H p ys ∨ SqT K H p ys) ∧ Q (.int ys.length) H
def rTupQ (K : PySem.W.Frag) : RC := fun xs H Q => ∃ (p : Addr) (ys : List V), xs = [.ref p] ∧ ((SqL K H p ys ∧ ∀ l, H l = none → Q (.ref l) (upd H l (.tup ys))) ∨ (SqT K H p ys ∧ Q (.ref p) H))
section
variable {X : Cx}
theorem call_lenQ : CallR X (.builtin "len") (rLenQ X.K) := call_len_seq
theorem call_tupQ : CallR X (.type "tuple") (rTupQ X.K) := call_tuple_of
/-- o[i] of a list, for o[i] += e -/
theorem get_list : PGet X (fun o i H Q => ∃ (p : Addr) (xs : List V) (j : Nat) (v : V), o = .ref p ∧ i = .int j ∧ SqL X.K H p xs ∧ xs[j]? = some v ∧ Q v H) := by
  intro pins s σ H o i ov iv Q I ro ri h
  obtain ⟨p, xs, j, v, rfl, rfl, hq, he, q⟩ := h
  cases ro
  obtain ⟨t, rfl⟩ := ri
  obtain ⟨its, r, pl, hz⟩ := I.list hq
  obtain ⟨u, eu, ru⟩ := r.get he
  have hj : j < its.length := (List.getElem?_eq_some_iff.mp eu).1
  have hl := r.length
  have hn := line63
  exact wpAny_getItem_list pl.isList (by omega) (by omega) (by simpa using eu) ⟨v, H, I, ru, q⟩
/-- tuple * int -/
theorem op_repA : OpR X (binaryOp .Mult) (rRepA X.K) := by
  intro pins s σ H x y v u Q I rx ry h
  obtain ⟨l, k, xs, rfl, rfl, hT, hne, h2, hz, q1, q2⟩ := h
  by_cases hk2 : 2 ≤ k
  · exact op_repT pins s σ H _ _ v u Q I rx ry ⟨l, k, xs, rfl, rfl, hT, hne, by omega, by omega, hz, by simpa using q2 (by omega)⟩
  cases rx
  obtain ⟨t, rfl⟩ := ry
  obtain ⟨its, r, ⟨⟨cls, dd, data, sl⟩, ho, hc, n, hd⟩, hs⟩ := I.tuple hT
  simp only at hc hd
  subst hc hd
  have hi : its.toArray.isEmpty = false := by
    cases its with
    | nil => exact absurd (List.eq_nil_of_length_eq_zero (by simpa using r.length)) hne
    | cons a b => rfl
  refine wpAny_binaryOp_repeat_ref (T := "tuple") (U := "int") (by decide) ⟨_, ho, rfl⟩ (fun s' => typeIs_int s' k t) noFill_tuple_mul F.fills_int_mul F.slot_int_rmul repeat_tuple F.slot_int_index.lookup
    (call_meets F.slot_int_rmul (typeIs_int s k t) F.entry_int_rmul (F.args_int_rmul_2 _ _) (int_rmul_tuple k t l its.toArray n dd sl)
      ⟨ho, rfl, ⟨_, ho, rfl⟩, ?_⟩)
  obtain hk | hk : k = 0 ∨ k = 1 := by omega
  · subst hk
    refine call_meets F.slot_tuple_mul (show s.TypeIs (.ref l) "tuple" from ⟨_, ho, rfl⟩) F.entry_tuple_mul (F.args_tuple_mul_2 _ _) (tup_mul0 l its.toArray n dd sl t hi) ⟨ho, ?_⟩
    refine ⟨.ref s.heap.objs.size, _, I.laid (t' := s.toks) (o := .tup []) (fun b ob q => Heap.get?_push_of_some _ q) (Nat.le_refl _) ?_, rfl, q2 (by decide) _ (I.hok.fresh (Nat.le_refl _))⟩
    exact ⟨Nat.zero_le _, [], .nil, IsTup.new _ _⟩
  · subst hk
    exact call_meets F.slot_tuple_mul (show s.TypeIs (.ref l) "tuple" from ⟨_, ho, rfl⟩) F.entry_tuple_mul (F.args_tuple_mul_2 _ _) (tup_mul1 l its.toArray n dd sl t) ⟨ho, ⟨.ref l, H, I, rfl, q1 rfl⟩⟩
/-- sum of a tuple of ints -/
theorem call_sumT (hc : X.calm = true) : CallR X (.builtin "sum") (fun xs H Q => ∃ (a : Addr) (ns : List Int), xs = [.ref a] ∧ SqT X.K H a (ns.map V.int) ∧ Q (.int ns.sum) H) := by
  intro pins s σ H xs us Q I r h
  obtain ⟨a, ns, rfl, hT, q⟩ := h
  obtain ⟨u, rfl, rfl⟩ := vals1 r
  obtain ⟨its, rv, ht, hz⟩ := I.tuple hT
  have hi : IntsAre its ns := rv.ints
  obtain ⟨ys, e⟩ := hi.allInts.items
  have hn : numsOf (intItems ys).toList = ns := by rw [← e]; exact hi.numsOf
  rw [nums_intItems] at hn
  rw [e] at ht
  have ht' : s.heap.IsTuple a (intItems ys) := ht
  have hlt : a < s.heap.objs.size := by obtain ⟨_, z, _⟩ := ht; exact Heap.lt_size z
  refine call_sum_walkG (wpAny_pyIter_tuple ht' ?_)
  refine ⟨_, _, _, _, _, _, numAt ys, rfl, Walks.tuple (A := X.A.in1) (I.ok.hd hc) _ a (Nat.ne_of_lt hlt) (intItems ys), ⟨⟨_, Heap.get?_push_size _ rfl, rfl, rfl⟩, ht'.push _⟩, ?_, (fun _ _ => intItems_at), ?_⟩
  · intro b hb
    show b < (s.heap.push _).objs.size
    rw [Heap.size_push]
    simp only [List.mem_cons, List.not_mem_nil, or_false] at hb
    rcases hb with rfl | rfl
    · exact Nat.lt_succ_self _
    · exact Nat.lt_succ_of_lt hlt
  · intro h' tk t' hk
    have eq : preSum (numAt ys) (intItems ys).size = ns.sum := by
      rw [preSum_eq, List.take_of_length_le (by simp [intItems]), hn]
    rw [eq]
    refine ⟨.int _, H, I.kept (t' := tk) (h' := h') ?_, ⟨_, rfl⟩, q⟩
    intro b o eb
    refine hk b o (fun hm => ?_) (Heap.get?_push_of_some _ eb)
    exact absurd (Heap.lt_size eb) ((List.mem_singleton.mp hm) ▸ Nat.lt_irrefl _)
end
theorem walk_zipT {K : PySem.W.Frag} {a b : Addr} {xs ys : List V} {n : Nat} (hn : n = min xs.length ys.length) :
    Walk (RZ.ItzT K a b) n (fun H => SqT K H a xs ∧ SqT K H b ys) (YPair (fun i => xs[i]?) (fun i => ys[i]?)) := by
  subst hn
  constructor
  · rintro i H hi ⟨q1, q2⟩
    have h1 : i < xs.length := by omega
    have h2 : i < ys.length := by omega
    exact ⟨xs, ys, xs[i], ys[i], q1, q2, by simp [h1], by simp [h2]⟩
  · rintro H ⟨q1, q2⟩
    exact ⟨xs, ys, q1, q2, by omega⟩
  · rintro i H v H' _ ⟨q1, q2⟩ ⟨T, x, z, h1, h2, h3, h4, h5⟩
    exact ⟨T, x, z, h1, h2, h3, h4 xs q1, h5 ys q2⟩
end Pv

namespace Pv
open PySem PySem.Spec PyProof.Rows L2

/-! tuples never change -/
def TupK (H H' : Hp) : Prop := ∀ b xs, Rd H b (.tup xs) → Rd H' b (.tup xs)
theorem TupK.refl (H : Hp) : TupK H H := fun _ _ h => h
theorem TupK.trans {H H1 H2 : Hp} (a : TupK H H1) (b : TupK H1 H2) : TupK H H2 := fun c xs h => b c xs (a c xs h)
theorem TupK.of {H H' : Hp} (s : Same H H') : TupK H H' := by
  rintro b xs (h | ⟨o, h⟩)
  · exact .inl (s _ _ h)
  · exact .inr ⟨o, s _ _ h⟩
theorem TupK.new {H : Hp} {p : Addr} {o : HO} (np : H p = none) : TupK H (upd H p o) := .of (sameNew np)
theorem TupK.put {H : Hp} {p : Addr} {o : HO} {ys : List V} (e : H p = some (.lst ys)) : TupK H (upd H p o) := by
  rintro b xs (h | ⟨u, h⟩)
  · exact .inl (by rw [upd_ne (ne_of h e (by intro z; cases z))]; exact h)
  · exact .inr ⟨u, by rw [upd_ne (ne_of h e (by intro z; cases z))]; exact h⟩
theorem TupK.sq {K : PySem.W.Frag} {H H' : Hp} {a : Addr} {xs : List V} (s : TupK H H') (h : SqT K H a xs) : SqT K H' a xs := by
  rcases h with h | h
  · exact .inl (s _ _ h)
  · exact .inr h

mutual
def tupOnly : PyData → Bool
  | .none | .bool _ | .int _ | .str _ => true
  | .tuple xs => tupOnlyAll xs
  | .list _ | .dict _ => false
def tupOnlyAll : List PyData → Bool
  | [] => true
  | x :: xs => tupOnly x && tupOnlyAll xs
end
mutual
theorem TupK.dp {K : PySem.W.Frag} {H H' : Hp} (s : TupK H H') : ∀ (d : PyData) (v : V), tupOnly d = true → Dp K H v d → Dp K H' v d
  | .none, v, _, h => by cases h; exact .non
  | .bool b, v, _, h => by cases h; exact .bl _
  | .int b, v, _, h => by cases h; exact .int _
  | .str b, v, _, h => by cases h; exact .str _
  | .tuple xs, v, t, h => by
    cases h with
    | tup hs ha => exact .tup (s.sq hs) (TupK.dpAll s xs _ (by simpa [tupOnly] using t) ha)
  | .list _, v, t, _ => by simp [tupOnly] at t
  | .dict _, v, t, _ => by simp [tupOnly] at t
theorem TupK.dpAll {K : PySem.W.Frag} {H H' : Hp} (s : TupK H H') : ∀ (ds : List PyData) (vs : List V), tupOnlyAll ds = true → DpAll K H vs ds → DpAll K H' vs ds
  | [], vs, _, h => by cases h; exact .nil
  | d :: ds, vs, t, h => by
    have t' : tupOnly d = true ∧ tupOnlyAll ds = true := by simpa [tupOnlyAll] using t
    cases h with
    | cons h1 h2 => exact .cons (TupK.dp s d _ t'.1 h1) (TupK.dpAll s ds _ t'.2 h2)
end
theorem tupOnlyAll_of {ds : List PyData} (h : ∀ d ∈ ds, tupOnly d = true) : tupOnlyAll ds = true := by
  induction ds with
  | nil => simp [tupOnlyAll]
  | cons d ds ih => simp [tupOnlyAll, h d (by simp), ih (fun e he => h e (by simp [he]))]

/-! data -/
abbrev Gp := List Int × Int
def dI (ns : List Int) : PyData := .tuple (ns.map .int)
def dGrp (g : Gp) : PyData := .tuple [dI g.1, .int g.2]
def dInst (cs : List Int) (gs : List Gp) : PyData := .tuple [dI cs, .tuple (gs.map dGrp)]
def dAsg (rows : List (List Int)) : PyData := .tuple (rows.map dI)
theorem to_ints (ns : List Int) : tupOnlyAll (ns.map PyData.int) = true := tupOnlyAll_of (by intro d hd; obtain ⟨n, _, rfl⟩ := List.mem_map.mp hd; simp [tupOnly])
theorem to_dI (ns : List Int) : tupOnly (dI ns) = true := by simp [dI, tupOnly, to_ints]
theorem to_dGrp (g : Gp) : tupOnly (dGrp g) = true := by simp [dGrp, tupOnly, tupOnlyAll, to_dI]
theorem to_grps (gs : List Gp) : tupOnlyAll (gs.map dGrp) = true := tupOnlyAll_of (by intro d hd; obtain ⟨n, _, rfl⟩ := List.mem_map.mp hd; exact to_dGrp n)
theorem to_rows (rs : List (List Int)) : tupOnlyAll (rs.map dI) = true := tupOnlyAll_of (by intro d hd; obtain ⟨n, _, rfl⟩ := List.mem_map.mp hd; exact to_dI n)
theorem to_dInst (cs : List Int) (gs : List Gp) : tupOnly (dInst cs gs) = true := by simp [dInst, tupOnly, tupOnlyAll, to_dI, to_grps]
theorem to_dAsg (rs : List (List Int)) : tupOnly (dAsg rs) = true := by simp [dAsg, tupOnly, to_rows]

section
variable {K : PySem.W.Frag} {H : Hp}
theorem DpAll.len : ∀ {vs : List V} {ds : List PyData}, DpAll K H vs ds → vs.length = ds.length
  | _, _, .nil => rfl
  | _, _, .cons _ t => by simp [DpAll.len t]
theorem DpAll.ints : ∀ {ns : List Int} {vs : List V}, DpAll K H vs (ns.map PyData.int) → vs = ns.map V.int
  | [], _, h => by cases h; rfl
  | n :: ns, _, h => by
    cases h with
    | cons h1 h2 => cases h1; rw [DpAll.ints h2]; rfl
theorem dp_ints : ∀ (ns : List Int), DpAll K H (ns.map V.int) (ns.map PyData.int)
  | [] => .nil
  | n :: ns => .cons (.int n) (dp_ints ns)
theorem DpAll.at : ∀ {vs : List V} {ds : List PyData} {i : Nat} {v : V}, DpAll K H vs ds → vs[i]? = some v → ∃ d, ds[i]? = some d ∧ Dp K H v d
  | _, _, _, _, .nil, e => by simp at e
  | _, _, 0, _, .cons h _, e => by simp at e; subst e; exact ⟨_, rfl, h⟩
  | _, _, i + 1, v, .cons _ t, e => by
    obtain ⟨d, h1, h2⟩ := DpAll.at (i := i) t (by simpa using e)
    exact ⟨d, by simpa using h1, h2⟩
theorem DpAll.snoc : ∀ {vs : List V} {ds : List PyData} {v : V} {d : PyData}, DpAll K H vs ds → Dp K H v d → DpAll K H (vs ++ [v]) (ds ++ [d])
  | _, _, _, _, .nil, h => .cons h .nil
  | _, _, _, _, .cons h t, h' => .cons h (DpAll.snoc t h')
theorem sq_dI {a : Addr} {ns : List Int} (h : Dp K H (.ref a) (dI ns)) : SqT K H a (ns.map V.int) := by
  cases h with
  | tup hs ha => rw [DpAll.ints ha] at hs; exact hs
theorem dI_sq {a : Addr} {ns : List Int} (h : SqT K H a (ns.map V.int)) : Dp K H (.ref a) (dI ns) := .tup h (dp_ints ns)
theorem dI_ref {v : V} {ns : List Int} (h : Dp K H v (dI ns)) : ∃ a, v = .ref a ∧ SqT K H a (ns.map V.int) := by
  cases h with
  | tup hs ha => rw [DpAll.ints ha] at hs; exact ⟨_, rfl, hs⟩
theorem grp_ref {v : V} {g : Gp} (h : Dp K H v (dGrp g)) : ∃ a p, v = .ref a ∧ SqT K H a [.ref p, .int g.2] ∧ SqT K H p (g.1.map V.int) := by
  cases h with
  | tup hs ha =>
    cases ha with
    | cons h1 h2 =>
      cases h2 with
      | cons h3 h4 =>
        cases h4
        cases h3
        obtain ⟨p, rfl, hp⟩ := dI_ref h1
        exact ⟨_, p, rfl, hs, hp⟩
theorem inst_open {v : V} {cs : List Int} {gs : List Gp} (h : Dp K H v (dInst cs gs)) :
    ∃ a c g xs, v = .ref a ∧ SqT K H a [.ref c, .ref g] ∧ SqT K H c (cs.map V.int) ∧ SqT K H g xs ∧ DpAll K H xs (gs.map dGrp) := by
  cases h with
  | tup hs ha =>
    cases ha with
    | cons h1 h2 =>
      cases h2 with
      | cons h3 h4 =>
        cases h4
        obtain ⟨c, rfl, hc⟩ := dI_ref h1
        cases h3 with
        | tup hg hx => exact ⟨_, c, _, _, rfl, hs, hc, hg, hx⟩
theorem asg_open {v : V} {rs : List (List Int)} (h : Dp K H v (dAsg rs)) : ∃ a xs, v = .ref a ∧ SqT K H a xs ∧ DpAll K H xs (rs.map dI) := by
  cases h with
  | tup hg hx => exact ⟨_, _, rfl, hg, hx⟩
end

/-! what repr wants of data -/
structure Fine (k B : Nat) (d : PyData) : Prop where
  sh : d.showable = true
  nd : d.hasDict = false
  dp : d.depth ≤ k
  ln : d.shown.length ≤ B
theorem Fine.mono {k k' B B' : Nat} {d : PyData} (h : Fine k B d) (hk : k ≤ k') (hB : B ≤ B') : Fine k' B' d := ⟨h.sh, h.nd, Nat.le_trans h.dp hk, Nat.le_trans h.ln hB⟩
theorem fine_int {i : Int} (h : i.natAbs < 10 ^ 20) : Fine 0 25 (.int i) := by
  refine ⟨?_, by simp [PyData.hasDict], by simp [PyData.depth], ?_⟩
  · simp only [PyData.showable, decide_eq_true_eq]
    have : i.natAbs.log2 < 100 := by
      by_cases h0 : i.natAbs = 0
      · rw [h0]; decide
      · exact (Nat.log2_lt h0).mpr (Nat.lt_trans h (by decide))
    omega
  · have e := int_text_length_le10 (k := 20) (by decide) h
    show (Str.ofString (toString i)).length ≤ 25
    rw [PySem.ofString_length]
    omega
theorem fine_all {k B : Nat} : ∀ {xs : List PyData}, (∀ x ∈ xs, Fine k B x) → PyData.showableAll xs = true ∧ PyData.hasDictAll xs = false ∧ PyData.depthAll xs ≤ k ∧ ((PyData.shownAll xs).map (·.length)).sum ≤ xs.length * B ∧ (PyData.shownAll xs).length = xs.length
  | [], _ => by simp [PyData.showableAll, PyData.hasDictAll, PyData.depthAll, PyData.shownAll]
  | x :: xs, h => by
    obtain ⟨h1, h2, h3, h4, h5⟩ := fine_all (xs := xs) (fun y hy => h y (by simp [hy]))
    have hx := h x (by simp)
    refine ⟨by simp [PyData.showableAll, hx.sh, h1], by simp [PyData.hasDictAll, hx.nd, h2], ?_, ?_, ?_⟩
    · simp only [PyData.depthAll]; have := hx.dp; omega
    · simp only [PyData.shownAll, List.map_cons, List.sum_cons, List.length_cons]; have := hx.ln; rw [Nat.succ_mul]; omega
    · simp [PyData.shownAll, h5]
theorem fine_tup {k B n : Nat} {xs : List PyData} (h : ∀ x ∈ xs, Fine k B x) (hn : xs.length ≤ n) : Fine (k + 1) (n * (B + 2) + 3) (.tuple xs) := by
  obtain ⟨h1, h2, h3, h4, h5⟩ := fine_all h
  refine ⟨by simp only [PyData.showable]; exact h1, by simp only [PyData.hasDict]; exact h2, by simp only [PyData.depth]; omega, ?_⟩
  simp only [PyData.shown]
  have e := tupleText_len_le (PyData.shownAll xs)
  rw [h5] at e
  have m : xs.length * (B + 2) ≤ n * (B + 2) := Nat.mul_le_mul_right _ hn
  rw [Nat.mul_add] at m
  omega
theorem fine_lst {k B n : Nat} {xs : List PyData} (h : ∀ x ∈ xs, Fine k B x) (hn : xs.length ≤ n) : Fine (k + 1) (n * (B + 2) + 3) (.list xs) := by
  obtain ⟨h1, h2, h3, h4, h5⟩ := fine_all h
  refine ⟨by simp only [PyData.showable]; exact h1, by simp only [PyData.hasDict]; exact h2, by simp only [PyData.depth]; omega, ?_⟩
  simp only [PyData.shown]
  have e := listText_len_le (PyData.shownAll xs)
  rw [h5] at e
  have m : xs.length * (B + 2) ≤ n * (B + 2) := Nat.mul_le_mul_right _ hn
  rw [Nat.mul_add] at m
  omega
theorem fine_dI {ns : List Int} {n : Nat} (h : ∀ i ∈ ns, i.natAbs < 10 ^ 20) (hn : ns.length ≤ n) : Fine 1 (n * 27 + 3) (dI ns) := by
  refine fine_tup (B := 25) ?_ (by simpa using hn)
  intro d hd
  obtain ⟨i, hi, rfl⟩ := List.mem_map.mp hd
  exact fine_int (h i hi)

/-! the drawing state of the law: a list of the cells, the rests and the turn -/
structure DS (H : Hp) (st c r : Addr) (t : Nat) : Prop where
  hs : H st = some (.lst [.ref c, .ref r, .int t])
  ex : ∃ cells rests : List Int, H c = some (.lst (cells.map V.int)) ∧ H r = some (.lst (rests.map V.int)) ∧ cells.length = rests.length ∧
    0 < cells.length ∧ cells.length ≤ 100 ∧ ∀ x ∈ rests, 0 ≤ x
  n1 : c ≠ r
  n2 : st ≠ c
  n3 : st ≠ r
def Ext (st r : Addr) (H H' : Hp) : Prop := ∀ b o, H b = some o → b ≠ st → b ≠ r → H' b = some o
section
variable {H H1 H2 : Hp} {st c r p : Addr} {t : Nat} {o : HO}
theorem Ext.trans (a : Ext st r H H1) (b : Ext st r H1 H2) : Ext st r H H2 := fun x o h n1 n2 => b x o (a x o h n1 n2) n1 n2
theorem Ext.of (s : Same H H1) : Ext st r H H1 := fun b o h _ _ => s b o h
theorem Ext.tup (d : DS H st c r t) (e : Ext st r H H1) : TupK H H1 := by
  obtain ⟨cells, rests, hc, hr, _⟩ := d.ex
  rintro b xs (h | ⟨u, h⟩)
  · exact .inl (e _ _ h (ne_of h d.hs (by intro z; cases z)) (ne_of h hr (by intro z; cases z)))
  · exact .inr ⟨u, e _ _ h (ne_of h d.hs (by intro z; cases z)) (ne_of h hr (by intro z; cases z))⟩
theorem DS.same (d : DS H st c r t) (s : Same H H1) : DS H1 st c r t := by
  obtain ⟨cells, rests, hc, hr, q⟩ := d.ex
  exact ⟨s _ _ d.hs, ⟨cells, rests, s _ _ hc, s _ _ hr, q⟩, d.n1, d.n2, d.n3⟩
theorem DS.new (d : DS H st c r t) (np : H p = none) : DS (upd H p o) st c r t := d.same (sameNew np)
theorem DS.put (d : DS H st c r t) (h1 : p ≠ st) (h2 : p ≠ c) (h3 : p ≠ r) : DS (upd H p o) st c r t := by
  obtain ⟨cells, rests, hc, hr, q⟩ := d.ex
  exact ⟨by rw [upd_ne h1.symm]; exact d.hs, ⟨cells, rests, by rw [upd_ne h2.symm]; exact hc, by rw [upd_ne h3.symm]; exact hr, q⟩, d.n1, d.n2, d.n3⟩
/-- an address that was free while the state stood is none of its own -/
theorem DS.off (d : DS H st c r t) (np : H p = none) : p ≠ st ∧ p ≠ c ∧ p ≠ r := by
  obtain ⟨cells, rests, hc, hr, q⟩ := d.ex
  exact ⟨(ne_of_none d.hs np).symm, (ne_of_none hc np).symm, (ne_of_none hr np).symm⟩
end
end Pv

namespace Pv
open PySem PySem.Spec PyProof.Rows L2
def topS (i : Nat) : Stmt := PySem.Challenge.pw_postvote_k04_loads_and_counts.main.body.getD i (.Pass ⟨0, 0, 0, 0⟩)
abbrev sDraw : Stmt := topS 12
theorem scDraw : FnScope ["_law_state", "_law_below", "_law_cells", "_law_rests", "_law_turn", "_law_spot", "_law_digit", "_law_mixed"] ["_law_state", "_law_below"] (defScope sDraw) :=
  ⟨rfl, rfl, rfl, by decide +kernel, rfl, by decide +kernel, by decide +kernel⟩
section
variable {P : Program} {w : World} {K : PySem.W.Frag} {mg : Str → Option Value} {base : Heap}
def spDraw : Sp := fun vs H Q _ => ∃ (st c r : Addr) (t : Nat) (m : Int), vs = [.ref st, .int m] ∧ DS H st c r t ∧ t < 1000000 ∧ 0 < m ∧ m ≤ 2 ^ 60 ∧
  ∀ (H' : Hp) (d : Int), 0 ≤ d → d < m → DS H' st c r (t + 1) → Ext st r H H' → Q (.int d) H'
set_option maxHeartbeats 1000000 in
theorem ok_draw {f : Addr} {fd : FuncData} {k : Nat} (F : Fun K "_law_draw" "_law_draw" sDraw f fd) (ml : mg "len" = none) : FnOk P w K mg base CX0 (k + 1) f fd ["_law_state", "_law_below"] spDraw := by
  refine F.ok scDraw (fun vs H Q E h => ?_) (fun cdv A outer s H vs Q E hr h => ?_)
  · obtain ⟨st, c, r, t, m, rfl, _⟩ := h
    rfl
  · obtain ⟨st, c, r, t, m, rfl, hd, ht, hm, hm2, q⟩ := h
    obtain ⟨cells, rests, hc, hrr, hl, hl0, hl1, hnn⟩ := hd.ex
    refine ⟨_, pss_cons (ps_asg (pv 0) (pg_unl rfl (pgs_cons (pg_name (i := 2) scDraw.nd rfl (.inl rfl)) (pgs_cons (pg_name (i := 3) scDraw.nd rfl (.inl rfl)) (pgs_cons (pg_name (i := 4) scDraw.nd rfl (.inl rfl)) pgs_nil)))))
      (pss_cons (ps_set (i := 5) scDraw.nd rfl (.inl rfl) (pe_op op_mod (pv 4) (pe_callB call_len_seq (by rfl) ml PySem.boot_len (pa_cons (pv 2) pa_nil))))
      (pss_cons (ps_asg (pe_op op_add (pv 4) pe_int) (pg_sub (pv 0) pe_int set_list))
      (pss_cons (ps_if (pt_cmpR op_gt (pe_ix ix_list (pv 3) (pv 5) (fun _ _ => rfl)) pe_int (nomark _))
        (pss_cons (ps_set (i := 6) scDraw.nd rfl (.inl rfl) (pe_op op_mod (pe_ix ix_list (pv 3) (pv 5) (fun _ _ => rfl)) (pv 1)))
        (pss_cons (ps_asg (pe_op op_fdivW (pe_ix ix_list (pv 3) (pv 5) (fun _ _ => rfl)) (pv 1)) (pg_sub (pv 3) (pv 5) set_list))
        (pss_one (ps_ret (pv 6))))) pss_nil)
      (pss_cons (ps_set (i := 7) scDraw.nd rfl (.inl rfl) (pe_op op_mod (pe_op op_pow (pe_op op_add (pe_op op_add (pe_op op_mod (pe_ix ix_list (pv 2) (pv 5) (fun _ _ => rfl)) pe_int) (pe_op op_mul pe_int (pv 4))) pe_int) pe_int) pe_int))
      (pss_cons (ps_set (i := 7) scDraw.nd rfl (.inl rfl) (pe_op op_mod (pe_op op_pow (pe_op op_add (pe_op op_add (pv 7) (pe_op op_mul (pe_op op_mul pe_int (pv 4)) (pv 4))) pe_int) pe_int) pe_int))
      (pss_one (ps_ret (pe_op op_mod (pe_op op_fdiv (pv 7) pe_int) (pv 1))))))))), ?_⟩
    -- the unpacking
    refine ⟨.ref st, rfl, st, _, rfl, SqL.of hd.hs, rfl, .ref c, _, rfl, .ref r, _, rfl, .int t, _, rfl, rfl, ?_⟩
    -- spot
    refine ⟨.int t, rfl, .ref c, rfl, c, _, rfl, .inl (SqL.of hc), _, _, rfl, rfl, by rw [List.length_map]; omega, ?_⟩
    have hn : (List.map V.int cells).length = cells.length := List.length_map ..
    have hsp : ((t : Int) % (((List.map V.int cells).length : Nat) : Int)) = ((t % cells.length : Nat) : Int) := by rw [hn]; norm_cast
    have hlt : t % cells.length < cells.length := Nat.mod_lt _ hl0
    generalize hj : t % cells.length = j at hsp hlt
    obtain ⟨x, hx⟩ : ∃ x, rests[j]? = some x := ⟨rests[j], List.getElem?_eq_getElem (by omega)⟩
    obtain ⟨y, hy⟩ : ∃ y, cells[j]? = some y := ⟨cells[j], List.getElem?_eq_getElem (by omega)⟩
    have hx0 : 0 ≤ x := hnn x (List.mem_of_getElem? hx)
    have hxv : (rests.map V.int)[j]? = some (.int x) := by rw [List.getElem?_map, hx]; rfl
    have hyv : (cells.map V.int)[j]? = some (.int y) := by rw [List.getElem?_map, hy]; rfl
    dsimp only
    rw [hsp]
    -- state[2] = turn + 1
    refine ⟨.int t, rfl, _, _, rfl, rfl, .ref st, rfl, st, _, 2, 2, rfl, rfl, hd.hs, rfl, ?_⟩
    have e1 : (upd H st (.lst [.ref c, .ref r, .int ((t : Int) + 1)])) r = some (.lst (rests.map V.int)) := by rw [upd_ne hd.n3.symm]; exact hrr
    have e2 : (upd H st (.lst [.ref c, .ref r, .int ((t : Int) + 1)])) c = some (.lst (cells.map V.int)) := by rw [upd_ne hd.n2.symm]; exact hc
    have ex0 : Ext st r H (upd H st (.lst [.ref c, .ref r, .int ((t : Int) + 1)])) := fun b o h n1 _ => by rw [upd_ne n1]; exact h
    have d0 : DS (upd H st (.lst [.ref c, .ref r, .int ((t : Int) + 1)])) st c r (t + 1) := ⟨upd_same, ⟨cells, rests, e2, e1, hl, hl0, hl1, hnn⟩, hd.n1, hd.n2, hd.n3⟩
    -- if rests[spot] > 0
    refine ⟨.ref r, rfl, .int j, rfl, r, _, _, .int x, rfl, rfl, SqL.of e1, atI_nat hxv, _, _, rfl, rfl, _, rfl, ite2 (fun hgt => ?_) (fun hle => ?_)⟩
    · refine ⟨.ref r, rfl, .int j, rfl, r, _, _, .int x, rfl, rfl, SqL.of e1, atI_nat hxv, .int m, rfl, _, _, rfl, rfl, hm, ?_⟩
      refine ⟨.ref r, rfl, .int j, rfl, r, _, _, .int x, rfl, rfl, SqL.of e1, atI_nat hxv, .int m, rfl, _, _, rfl, rfl, wide_div (b := 61) hm (by omega) (by decide) (by decide), ?_⟩
      refine ⟨.ref r, rfl, .int j, rfl, r, _, _, j, rfl, rfl, e1, ?_, ?_⟩
      · unfold ixN
        rw [if_pos (by omega), if_pos (by rw [List.length_map]; omega)]
        simp
      · refine ⟨_, rfl, q _ _ (Int.emod_nonneg _ (by omega)) (Int.emod_lt_of_pos _ hm) ?_ ?_⟩
        · refine ⟨by rw [upd_ne hd.n3]; exact upd_same, ⟨cells, rests.set j (x / m), by rw [upd_ne hd.n1]; exact e2, by rw [upd_same, List.map_set], by rw [List.length_set]; exact hl, hl0, hl1, ?_⟩, hd.n1, hd.n2, hd.n3⟩
          intro z hz
          rcases List.mem_or_eq_of_mem_set hz with h | h
          · exact hnn z h
          · rw [h]; exact Int.ediv_nonneg hx0 (by omega)
        · exact fun b o h n1 n2 => by rw [upd_ne n2]; exact ex0 b o h n1 n2
    · -- mixed
      have hy1 : 0 ≤ y % 2147483629 := Int.emod_nonneg _ (by decide)
      have hy2 : y % 2147483629 < 2147483629 := Int.emod_lt_of_pos _ (by decide)
      refine ⟨.ref c, rfl, .int j, rfl, c, _, _, .int y, rfl, rfl, SqL.of e2, atI_nat hyv, _, _, rfl, rfl, (by show (0 : Int) < 2147483629; decide), .int t, rfl, _, _, rfl, rfl, .inl ⟨by decide, by decide⟩, _, _, rfl, rfl, _, _, rfl, rfl, _, _, rfl, rfl, ⟨by decide, by decide, by omega⟩, _, _, rfl, rfl, (by show (0 : Int) < 2147483587; decide), ?_⟩
      dsimp only
      generalize hu : (y % 2147483629 + 48271 * (t : Int) + 811) ^ (3 : Int).toNat % 2147483587 = u
      have hu1 : 0 ≤ u := by rw [← hu]; exact Int.emod_nonneg _ (by decide)
      have hu2 : u < 2147483587 := by rw [← hu]; exact Int.emod_lt_of_pos _ (by decide)
      have htt : 69621 * (t : Int) * (t : Int) ≤ 69621 * 1000000 * 1000000 := by
        have a1 : (t : Int) * (t : Int) ≤ 1000000 * 1000000 := Int.mul_le_mul (by omega) (by omega) (by omega) (by omega)
        rw [Int.mul_assoc]; omega
      have htt0 : 0 ≤ 69621 * (t : Int) * (t : Int) := Int.mul_nonneg (by omega) (by omega)
      refine ⟨.int u, rfl, .int t, rfl, _, _, rfl, rfl, .inl ⟨by decide, by decide⟩, .int t, rfl, _, _, rfl, rfl, .inl ⟨by omega, by omega⟩, _, _, rfl, rfl, _, _, rfl, rfl, _, _, rfl, rfl, ⟨by decide, by decide, by omega⟩, _, _, rfl, rfl, (by show (0 : Int) < 2147483647; decide), ?_⟩
      refine ⟨_, rfl, _, _, rfl, rfl, ⟨by decide, by decide⟩, .int m, rfl, _, _, rfl, rfl, hm, ?_⟩
      exact q _ _ (Int.emod_nonneg _ (by omega)) (Int.emod_lt_of_pos _ hm) d0 ex0
end
end Pv

namespace Pv
open PySem PySem.Spec PyProof.Rows L2
theorem samePut {H H1 : Hp} {D : Addr} {o : HO} (s : Same H H1) (nD : H D = none) : Same H (upd H1 D o) := fun b z e => by rw [upd_ne (ne_of_none e nD)]; exact s b z e
theorem ty_sq {K : PySem.W.Frag} {H : Hp} {a : Addr} {xs : List V} (h : SqT K H a xs) : TyX K H (.ref a) (.type "tuple") := by
  rcases h with (h | ⟨o, h⟩) | ⟨o, its, n, h, hc, _⟩
  · exact .base (.tup h)
  · exact .fTuple h
  · exact .kTuple h hc
theorem small {n : Nat} (h : n ≤ 1000000) : n < sizeLine := Nat.lt_of_le_of_lt h (by decide)

abbrev sWhole : Stmt := topS 1
abbrev sWithin : Stmt := topS 2
abbrev sTupOf : Stmt := topS 3
abbrev sIA : Stmt := topS 6
abbrev sSp : Stmt := topS 4
theorem scWhole : FnScope ["value"] ["value"] (defScope sWhole) := ⟨rfl, rfl, rfl, by decide +kernel, rfl, by decide +kernel, by decide +kernel⟩
theorem scWithin : FnScope ["value", "least", "most"] ["value", "least", "most"] (defScope sWithin) := ⟨rfl, rfl, rfl, by decide +kernel, rfl, by decide +kernel, by decide +kernel⟩
theorem scTupOf : FnScope ["value", "least", "most"] ["value", "least", "most"] (defScope sTupOf) := ⟨rfl, rfl, rfl, by decide +kernel, rfl, by decide +kernel, by decide +kernel⟩
theorem scSp : FnScope ["value", "size", "total", "number"] ["value", "size", "total"] (defScope sSp) := ⟨rfl, rfl, rfl, by decide +kernel, rfl, by decide +kernel, by decide +kernel⟩
theorem scIA : FnScope ["instance", "value", "capacities", "groups", "posts", "count", "share", "load", "capacity"] ["instance", "value"] (defScope sIA) := ⟨rfl, rfl, rfl, by decide +kernel, rfl, by decide +kernel, by decide +kernel⟩
section
variable {P : Program} {w : World} {K : PySem.W.Frag} {mg : Str → Option Value} {base : Heap}
def spWhole : Sp := fun vs H Q _ => ∃ i : Int, vs = [.int i] ∧ Q (.bl true) H
theorem ok_whole {f : Addr} {fd : FuncData} {k : Nat} (F : Fun K "is_whole" "is_whole" sWhole f fd) (mi : mg "isinstance" = none) (mint : mg "int" = none) (mb : mg "bool" = none) :
    FnOk P w K mg base CX0 (k + 1) f fd ["value"] spWhole := by
  refine F.ok scWhole (fun vs H Q E h => ?_) (fun cdv A outer s H vs Q E hr h => ?_)
  · obtain ⟨i, rfl, _⟩ := h; rfl
  · obtain ⟨i, rfl, q⟩ := h
    refine ⟨_, pss_one (ps_ret (pe_and (pe_callB call_isi (by rfl) mi (by decide +kernel) (pa_cons (pv 0) (pa_cons (pe_bltn (v := .ty "int") (by rfl) mint (by decide +kernel) rfl) pa_nil)))
      (pe_one (pe_not (pe_callB call_isi (by rfl) mi (by decide +kernel) (pa_cons (pv 0) (pa_cons (pe_bltn (v := .ty "bool") (by rfl) mb (by decide +kernel) rfl) pa_nil))))))), ?_⟩
    refine ⟨.int i, rfl, .int i, .ty "int", _, _, true, rfl, .ty _, .base (.int i), kit_ty (by decide +kernel), true, rfl, iteT ?_⟩
    exact ⟨.int i, rfl, .int i, .ty "bool", _, _, false, rfl, .ty _, .base (.int i), kit_ty (by decide +kernel), false, rfl, q⟩
def spWithin : Sp := fun vs H Q _ => ∃ v a b : Int, vs = [.int v, .int a, .int b] ∧ Q (.bl (decide (a ≤ v ∧ v ≤ b))) H
theorem ok_within {f fW : Addr} {fd fdW : FuncData} {k : Nat} (F : Fun K "is_within" "is_within" sWithin f fd) (FW : Fun K "is_whole" "is_whole" sWhole fW fdW) (bW : Binds K fdW ["value"] []) (gW : mg "is_whole" = some (.ref fW))
    (GW : FnOk P w K mg base CX0 1 fW fdW ["value"] spWhole) : FnOk P w K mg base CX0 (1 + k + 1) f fd ["value", "least", "most"] spWithin := by
  refine F.ok scWithin (fun vs H Q E h => ?_) (fun cdv A outer s H vs Q E hr h => ?_)
  · obtain ⟨v, a, b, rfl, _⟩ := h; rfl
  · obtain ⟨v, a, b, rfl, q⟩ := h
    refine ⟨_, pss_one (ps_ret (pe_and (pe_call GW (hr.mono (by omega)) (by rfl) gW FW.kp bW .nil pass0 (pa_cons (pv 0) pa_nil)) (pe_one (pe_chain op_le op_le (pv 1) (pv 0) (pv 2))))), ?_⟩
    refine ⟨.int v, rfl, v, rfl, true, rfl, iteT ?_⟩
    refine ⟨.int a, rfl, .int v, rfl, _, _, rfl, rfl, _, rfl, ite2 (fun h1 => ?_) (fun h1 => ?_)⟩
    · refine ⟨.int b, rfl, _, _, rfl, rfl, ?_⟩
      have h1' : a ≤ v := of_decide_eq_true h1
      simpa [h1'] using q
    · have h1' : ¬ a ≤ v := fun z => h1 (decide_eq_true z)
      simpa [h1'] using q
def spTupOf (K : PySem.W.Frag) : Sp := fun vs H Q _ => ∃ (p : Addr) (xs : List V) (a b : Int), vs = [.ref p, .int a, .int b] ∧ SqT K H p xs ∧ Q (.bl (decide (a ≤ xs.length ∧ (xs.length : Int) ≤ b))) H
theorem ok_tupOf {f : Addr} {fd : FuncData} {k : Nat} (F : Fun K "is_tuple_of" "is_tuple_of" sTupOf f fd) (mi : mg "isinstance" = none) (mt : mg "tuple" = none) (ml : mg "len" = none) :
    FnOk P w K mg base CX0 (k + 1) f fd ["value", "least", "most"] (spTupOf K) := by
  refine F.ok scTupOf (fun vs H Q E h => ?_) (fun cdv A outer s H vs Q E hr h => ?_)
  · obtain ⟨p, xs, a, b, rfl, _⟩ := h; rfl
  · obtain ⟨p, xs, a, b, rfl, hT, q⟩ := h
    refine ⟨_, pss_one (ps_ret (pe_and (pe_callB call_isi (by rfl) mi (by decide +kernel) (pa_cons (pv 0) (pa_cons (pe_bltn (v := .ty "tuple") (by rfl) mt (by decide +kernel) rfl) pa_nil)))
      (pe_one (pe_chain op_le op_le (pv 1) (pe_callB call_len_seq (by rfl) ml PySem.boot_len (pa_cons (pv 0) pa_nil)) (pv 2))))), ?_⟩
    refine ⟨.ref p, rfl, .ref p, .ty "tuple", _, _, true, rfl, .ty _, ty_sq hT, kit_ty (by decide +kernel), true, rfl, iteT ?_⟩
    refine ⟨.int a, rfl, .ref p, rfl, p, xs, rfl, .inr hT, _, _, rfl, rfl, _, rfl, ite2 (fun h1 => ?_) (fun h1 => ?_)⟩
    · refine ⟨.int b, rfl, _, _, rfl, rfl, ?_⟩
      have h1' : a ≤ (xs.length : Int) := of_decide_eq_true h1
      simpa [h1'] using q
    · have h1' : ¬ a ≤ (xs.length : Int) := fun z => h1 (decide_eq_true z)
      simpa [h1'] using q
def shareOk (n : Int) (row : List Int) : Bool := row.all (fun x => decide (0 ≤ x ∧ x ≤ n)) && decide (row.sum = n)
def rSumT (K : PySem.W.Frag) : RC := fun xs H Q => ∃ (a : Addr) (ns : List Int), xs = [.ref a] ∧ SqT K H a (ns.map V.int) ∧ Q (.int ns.sum) H
theorem call_sumTQ {X : Cx} (hc : X.calm = true) : CallR X (.builtin "sum") (rSumT X.K) := call_sumT hc
def spSplit (K : PySem.W.Frag) : Sp := fun vs H Q _ => ∃ (v : Addr) (row : List Int) (t : Int), vs = [.ref v, .int (row.length : Int), .int t] ∧ Dp K H (.ref v) (dI row) ∧ row.length ≤ 1000 ∧ ∀ H', Same H H' → Q (.bl (shareOk t row)) H'
theorem ok_Sp {f fTo fWi : Addr} {fd fdTo fdWi : FuncData} (F : Fun K "is_split" "is_split" sSp f fd)
    (FTo : Fun K "is_tuple_of" "is_tuple_of" sTupOf fTo fdTo) (bTo : Binds K fdTo ["value", "least", "most"] []) (gTo : mg "is_tuple_of" = some (.ref fTo)) (GTo : FnOk P w K mg base CX0 1 fTo fdTo ["value", "least", "most"] (spTupOf K))
    (FWi : Fun K "is_within" "is_within" sWithin fWi fdWi) (bWi : Binds K fdWi ["value", "least", "most"] []) (gWi : mg "is_within" = some (.ref fWi)) (GWi : FnOk P w K mg base CX0 2 fWi fdWi ["value", "least", "most"] spWithin)
    (m_all : mg "all" = none) (m_sum : mg "sum" = none) :
    FnOk P w K mg base CX0 3 f fd ["value", "size", "total"] (spSplit K) := by
  refine F.ok scSp (fun vs H Q E h => ?_) (fun cdv A outer s H vs Q E hr h => ?_)
  · obtain ⟨v, row, t, rfl, _⟩ := h; rfl
  · obtain ⟨v, row, t, rfl, hv, hsz, q⟩ := h
    refine ⟨_, pss_cons (ps_if (pt_not (pt_val (pe_call GTo (hr.mono (by omega)) (by rfl) gTo FTo.kp bTo .nil pass0 (pa_cons (pv 0) (pa_cons (pv 1) (pa_cons (pv 1) pa_nil))))))
        (pss_one (ps_ret (pe_bl))) pss_nil)
      (pss_one (ps_ret (pe_and (pe_callB (cr_all rfl) (by rfl) m_all (by decide +kernel) (pa_cons (pe_lc (own := [("number", 3)]) (g := gName 3) (tt := tYes) (te := tCall spWithin [] E0 (tCons (tVar 3) (tCons (tC (.int 0)) (tCons (tVar 2) tNil)))) rfl scSp.nd (pi_tup (pv 0)) (blkOk_by (N := ["value", "size", "total", "number"]) (sc := defScope sSp) (by decide +kernel)) (fun _ _ _ _ _ => pg_name (i := 3) scSp.nd rfl (.inl rfl)) (fun _ _ _ _ _ => pts_nil) (fun _ _ _ _ _ => pe_call GWi (hr.mono (by omega)) (by rfl) gWi FWi.kp bWi .nil pass0 (pa_cons (pv 3) (pa_cons (pe_int) (pa_cons (pv 2) pa_nil))))) pa_nil)) (pe_one (pe_cmpR op_eq (pe_callB (call_sumTQ rfl) (by rfl) m_sum (by decide +kernel) (pa_cons (pv 0) pa_nil)) (pv 2) (nomark _)))))), ?_⟩
    have hV := sq_dI hv
    refine ⟨.ref v, rfl, .int (row.length : Int), rfl, .int (row.length : Int), rfl, v, _, _, _, rfl, hV, ?_⟩
    have hb : decide ((row.length : Int) ≤ (List.map V.int row).length ∧ ((List.map V.int row).length : Int) ≤ (row.length : Int)) = true := by
      rw [List.length_map]; exact decide_eq_true (by omega)
    rw [hb]
    refine ⟨_, rfl, iteF ?_⟩
    refine ⟨.ref v, rfl, v, rfl, ⟨_, hV⟩, fun D nD => lc_tup (xs := row.map V.int)
      (fun i H2 => Same H H2 ∧ H2 D = some (.lst (((row.take i).map fun x => decide (0 ≤ x ∧ x ≤ t)).map V.bl))) ⟨sameNew nD, upd_same⟩ (fun i H2 _ h2 => (TupK.of h2.1).sq hV) ?_ ?_⟩
    · rintro i x H2 hx ⟨s2, e2⟩
      rw [List.getElem?_map] at hx
      obtain ⟨z, hz, rfl⟩ := Option.map_eq_some_iff.mp hx
      refine ⟨rfl, .int z, rfl, .int t, rfl, z, 0, t, rfl, _, e2, ?_, samePut s2 nD, ?_⟩
      · rw [List.length_map, List.length_map, List.length_take]; exact small (by omega)
      · rw [upd_same, List.take_add_one, hz]; simp
    · rintro H2 ⟨s2, e2⟩
      rw [List.length_map, List.take_length] at e2
      refine ⟨D, _, rfl, SqL.of e2, _, rfl, ite2 (fun h1 => ?_) (fun h1 => ?_)⟩
      · refine ⟨.ref v, rfl, v, row, rfl, (TupK.of s2).sq hV, .int t, rfl, rfl, ?_⟩
        have e : shareOk t row = decide (V.int row.sum = V.int t) := by
          unfold shareOk
          rw [List.all_map] at h1
          rw [show row.all (fun x => decide (0 ≤ x ∧ x ≤ t)) = true from h1, Bool.true_and]
          simp
        have := q H2 s2
        rw [e] at this
        exact this
      · have e : shareOk t row = false := by
          unfold shareOk
          rw [List.all_map] at h1
          rw [show row.all (fun x => decide (0 ≤ x ∧ x ≤ t)) = false from Bool.eq_false_iff.mpr h1, Bool.false_and]
        have := q H2 s2
        rw [e] at this
        exact this
/-! loads -/
def addAt (ls : List Int) (p x : Int) : List Int := ls.set p.toNat (ls.getD p.toNat 0 + x)
def rowLoads (ls : List Int) (ps row : List Int) : List Int := (ps.zip row).foldl (fun l q => addAt l q.1 q.2) ls
def loadsFrom (ls : List Int) (gs : List Gp) (rows : List (List Int)) : List Int := (gs.zip rows).foldl (fun l q => rowLoads l q.1.1 q.2) ls
theorem addAt_len (ls : List Int) (p x : Int) : (addAt ls p x).length = ls.length := by simp [addAt]
theorem rowLoads_len (ps row : List Int) (ls : List Int) : (rowLoads ls ps row).length = ls.length := by
  unfold rowLoads
  generalize ps.zip row = z
  induction z generalizing ls with
  | nil => rfl
  | cons q z ih => rw [List.foldl_cons, ih, addAt_len]
theorem rowLoads_take {ls ps row : List Int} {i : Nat} {p x : Int} (hp : ps[i]? = some p) (hx : row[i]? = some x) : rowLoads ls (ps.take (i + 1)) (row.take (i + 1)) = addAt (rowLoads ls (ps.take i) (row.take i)) p x := by
  have h1 : ps.take (i + 1) = ps.take i ++ [p] := by rw [List.take_add_one, hp]; rfl
  have h2 : row.take (i + 1) = row.take i ++ [x] := by rw [List.take_add_one, hx]; rfl
  have l1 := (List.getElem?_eq_some_iff.mp hp).1
  have l2 := (List.getElem?_eq_some_iff.mp hx).1
  unfold rowLoads
  rw [h1, h2, List.zip_append (by rw [List.length_take, List.length_take]; omega), List.foldl_append]
  rfl
theorem loadsFrom_take {ls : List Int} {gs : List Gp} {rows : List (List Int)} {i : Nat} {g : Gp} {row : List Int} (hp : gs[i]? = some g) (hx : rows[i]? = some row) :
    loadsFrom ls (gs.take (i + 1)) (rows.take (i + 1)) = rowLoads (loadsFrom ls (gs.take i) (rows.take i)) g.1 row := by
  have h1 : gs.take (i + 1) = gs.take i ++ [g] := by rw [List.take_add_one, hp]; rfl
  have h2 : rows.take (i + 1) = rows.take i ++ [row] := by rw [List.take_add_one, hx]; rfl
  have l1 := (List.getElem?_eq_some_iff.mp hp).1
  have l2 := (List.getElem?_eq_some_iff.mp hx).1
  unfold loadsFrom
  rw [h1, h2, List.zip_append (by rw [List.length_take, List.length_take]; omega), List.foldl_append]
  rfl
theorem loadsFrom_len (gs : List Gp) (rows : List (List Int)) (ls : List Int) : (loadsFrom ls gs rows).length = ls.length := by
  unfold loadsFrom
  generalize gs.zip rows = z
  induction z generalizing ls with
  | nil => rfl
  | cons q z ih => rw [List.foldl_cons, ih, rowLoads_len]
end
end Pv

namespace Pv
open PySem PySem.Spec PyProof.Rows L2
theorem freeOf {H : Hp} {p b : Addr} {o : HO} (h : upd H p o b = none) : H b = none := by
  by_cases e : b = p
  · subst e; rw [upd_same] at h; cases h
  · rw [upd_ne e] at h; exact h
theorem ixN_nat {n j : Nat} (h : j < n) : ixN n (j : Int) = some j := by
  unfold ixN
  rw [if_pos (by omega), if_pos (by omega)]
  simp
theorem zip_take {α β : Type} : ∀ (n : Nat) (a : List α) (b : List β), (a.take n).zip (b.take n) = (a.zip b).take n
  | 0, _, _ => by simp
  | _ + 1, [], _ => by simp
  | _ + 1, _ :: _, [] => by simp
  | n + 1, x :: a, y :: b => by simp [zip_take n a b]
theorem rowLoads_all (ls ps row : List Int) : rowLoads ls (ps.take (min ps.length row.length)) (row.take (min ps.length row.length)) = rowLoads ls ps row := by
  unfold rowLoads
  rw [zip_take, List.take_of_length_le (by rw [List.length_zip]; exact Nat.le_refl _)]
theorem loadsFrom_all (ls : List Int) (gs : List Gp) (rows : List (List Int)) : loadsFrom ls (gs.take (min gs.length rows.length)) (rows.take (min gs.length rows.length)) = loadsFrom ls gs rows := by
  unfold loadsFrom
  rw [zip_take, List.take_of_length_le (by rw [List.length_zip]; exact Nat.le_refl _)]
def InR (n : Nat) (gs : List Gp) : Prop := ∀ g ∈ gs, g.1.length ≤ 1000 ∧ ∀ p ∈ g.1, 0 ≤ p ∧ p < (n : Int)
def zeros (n : Nat) : List Int := List.replicate n 0
def loadsOf (n : Nat) (gs : List Gp) (rows : List (List Int)) : List Int := loadsFrom (zeros n) gs rows
theorem zeros_V (n : Nat) : (List.replicate n [V.int 0]).flatten = (zeros n).map V.int := by
  unfold zeros
  induction n with
  | zero => rfl
  | succ n ih => rw [List.replicate_succ, List.flatten_cons, ih]; rfl

abbrev sLoads : Stmt := topS 7
abbrev sLLoads : Stmt := topS 18
theorem scLoads : FnScope ["instance", "assignment", "loads", "group", "share", "post", "number"] ["instance", "assignment"] (defScope sLoads) := ⟨rfl, rfl, rfl, by decide +kernel, rfl, by decide +kernel, by decide +kernel⟩
theorem scLLoads : FnScope ["_law_instance_here", "_law_assignment_here", "_law_found", "_law_posts", "_law_count", "_law_numbers", "_law_post", "_law_number"] ["_law_instance_here", "_law_assignment_here"] (defScope sLLoads) := ⟨rfl, rfl, rfl, by decide +kernel, rfl, by decide +kernel, by decide +kernel⟩
section
variable {P : Program} {w : World} {K : PySem.W.Frag} {mg : Str → Option Value} {base : Heap}
def spLoads (K : PySem.W.Frag) : Sp := fun vs H Q _ => ∃ (i a : Addr) (cs : List Int) (gs : List Gp) (rows : List (List Int)), vs = [.ref i, .ref a] ∧ Dp K H (.ref i) (dInst cs gs) ∧ Dp K H (.ref a) (dAsg rows) ∧
  cs.length ≤ 1000 ∧ InR cs.length gs ∧ ∀ H' p, Same H H' → Dp K H' (.ref p) (dI (loadsOf cs.length gs rows)) → Q (.ref p) H'
set_option maxHeartbeats 2000000 in
theorem ok_loads {f : Addr} {fd : FuncData} {k : Nat} (F : Fun K "post_loads" "post_loads" sLoads f fd) (ml : mg "len" = none) (mz : mg "zip" = none) (mt : mg "tuple" = none) :
    FnOk P w K mg base CX0 (k + 1) f fd ["instance", "assignment"] (spLoads K) := by
  refine F.ok scLoads (fun vs H Q E h => ?_) (fun cdv A outer s H vs Q E hr h => ?_)
  · obtain ⟨i, a, cs, gs, rows, rfl, _⟩ := h; rfl
  · obtain ⟨i, a, cs, gs, rows, rfl, hI, hA, hcs, hin, q⟩ := h
    refine ⟨_, pss_cons (ps_set (i := 2) scLoads.nd rfl (.inl rfl) (pe_op op_rep (pe_lst (pa_cons pe_int pa_nil)) (pe_callB call_len_seq (by rfl) ml PySem.boot_len (pa_cons (pe_ix ix_tup (pv 0) pe_int (fun _ _ => rfl)) pa_nil))))
      (pss_cons (ps_for PassesOwn.never rfl (RZ.pi_zipA (by rfl) mz (pa_cons (pe_ix ix_tup (pv 0) pe_int (fun _ _ => rfl)) (pa_cons (pv 1) pa_nil)))
          (pg_tup rfl (pgs_cons (pg_name (i := 3) scLoads.nd rfl (.inl rfl)) (pgs_cons (pg_name (i := 4) scLoads.nd rfl (.inl rfl)) pgs_nil)))
          (pss_one (ps_for PassesOwn.never rfl (RZ.pi_zipA (by rfl) mz (pa_cons (pe_ix ix_tup (pv 3) pe_int (fun _ _ => rfl)) (pa_cons (pv 4) pa_nil)))
            (pg_tup rfl (pgs_cons (pg_name (i := 5) scLoads.nd rfl (.inl rfl)) (pgs_cons (pg_name (i := 6) scLoads.nd rfl (.inl rfl)) pgs_nil)))
            (pss_one (ps_augS (pv 2) (pv 5) get_list (pv 6) ip_add set_list)))))
      (pss_one (ps_ret (pe_callTy call_tuple_of (by rfl) mt (by decide +kernel) (pa_cons (pv 2) pa_nil))))), ?_⟩
    obtain ⟨_, ca, ga, xs, e, hi, hc, hg, hgs⟩ := inst_open hI
    cases e
    obtain ⟨_, ys, e, ha, hrows⟩ := asg_open hA
    cases e
    -- loads = [0] * len(instance[0])
    refine ⟨by decide, fun p0 n0 => ⟨.ref i, rfl, i, _, 0, .ref ca, rfl, rfl, (TupK.new n0).sq hi, atI_nat (j := 0) rfl, ca, _, rfl, .inr ((TupK.new n0).sq hc), p0, _, _, rfl, rfl, upd_same, by omega, ?_, ?_, fun L nL => ?_⟩⟩
    · rw [List.length_map]; omega
    · rw [List.length_map]; show 1 * _ ≤ sizeLine; have := small (n := cs.length) (by omega); simp; omega
    have fL : H L = none := freeOf nL
    have s1 : Same H (upd (upd H p0 (.lst [.int 0])) L (.lst (List.replicate ((List.map V.int cs).length : Int).toNat [V.int 0]).flatten)) := samePut (sameNew n0) fL
    -- the groups
    refine ⟨.ref i, rfl, i, _, 1, .ref ga, rfl, rfl, (TupK.of s1).sq hi, atI_nat (j := 1) rfl, .ref a, rfl, ga, a, xs, ys, rfl, .inr ⟨(TupK.of s1).sq hg, (TupK.of s1).sq ha, for_it (walk_zipT (K := K) (a := ga) (b := a) (xs := xs) (ys := ys) rfl)
      (fun i' σ H2 => ∃ y3 y4 y5 y6, σ = [some (.ref i), some (.ref a), some (.ref L), y3, y4, y5, y6] ∧ Same H H2 ∧ H2 L = some (.lst ((loadsFrom (zeros cs.length) (gs.take i') (rows.take i')).map V.int)))
      ⟨none, none, none, none, rfl, s1, ?_⟩ ?_ ?_ ?_⟩⟩
    · rw [upd_same, zeros_V, List.length_map]; simp [loadsFrom]
    · rintro i' σ H2 _ ⟨y3, y4, y5, y6, rfl, s2, e2⟩
      exact ⟨(TupK.of s2).sq hg, (TupK.of s2).sq ha⟩
    · rintro i' v σ H2 H3 hlt ⟨y3, y4, y5, y6, rfl, s2, e2⟩ ⟨T, x, y, rfl, nT, rfl, hx, hy⟩
      have hx' : xs[i']? = some x := hx
      have hy' : ys[i']? = some y := hy
      obtain ⟨d, hd, hxd⟩ := DpAll.at hgs hx'
      rw [List.getElem?_map] at hd
      obtain ⟨g, hgi, rfl⟩ := Option.map_eq_some_iff.mp hd
      obtain ⟨d, hd, hyd⟩ := DpAll.at hrows hy'
      rw [List.getElem?_map] at hd
      obtain ⟨row, hri, rfl⟩ := Option.map_eq_some_iff.mp hd
      have s3 : Same H (upd H2 T (.tup [x, y])) := s2.trans (sameNew nT)
      obtain ⟨gA, pA, rfl, hG, hP⟩ := grp_ref hxd
      obtain ⟨rA, rfl, hR⟩ := dI_ref hyd
      have e3 : (upd H2 T (.tup [.ref gA, .ref rA])) L = some (.lst ((loadsFrom (zeros cs.length) (gs.take i') (rows.take i')).map V.int)) := upNew nT e2
      have tk3 := TupK.of s3
      refine ⟨T, _, rfl, SqT.of upd_same, rfl, _, _, rfl, _, _, rfl, rfl, ?_⟩
      refine ⟨.ref gA, rfl, gA, _, 0, .ref pA, rfl, rfl, tk3.sq hG, atI_nat (j := 0) rfl, .ref rA, rfl, pA, rA, _, _, rfl, .inr ⟨tk3.sq hP, tk3.sq hR, for_it (walk_zipT (K := K) (a := pA) (b := rA) (xs := g.1.map V.int) (ys := row.map V.int) rfl)
        (fun j σ H4 => ∃ y5 y6, σ = [some (.ref i), some (.ref a), some (.ref L), some (.ref gA), some (.ref rA), y5, y6] ∧ Same H H4 ∧
          H4 L = some (.lst ((rowLoads (loadsFrom (zeros cs.length) (gs.take i') (rows.take i')) (g.1.take j) (row.take j)).map V.int)))
        ⟨y5, y6, rfl, s3, by simpa [rowLoads] using e3⟩ ?_ ?_ ?_⟩⟩
      · rintro j σ H4 _ ⟨y5, y6, rfl, s4, e4⟩
        exact ⟨(TupK.of s4).sq hP, (TupK.of s4).sq hR⟩
      · rintro j v σ H4 H5 hltj ⟨y5, y6, rfl, s4, e4⟩ ⟨T2, x, y, rfl, nT2, rfl, hx2, hy2⟩
        have hx2' : (g.1.map V.int)[j]? = some x := hx2
        have hy2' : (row.map V.int)[j]? = some y := hy2
        rw [List.getElem?_map] at hx2' hy2'
        obtain ⟨pp, hpp, rfl⟩ := Option.map_eq_some_iff.mp hx2'
        obtain ⟨nn, hnn, rfl⟩ := Option.map_eq_some_iff.mp hy2'
        have e5 := upNew (o := .tup [.int pp, .int nn]) nT2 e4
        have hpr := (hin g (List.mem_of_getElem? hgi)).2 pp (List.mem_of_getElem? hpp)
        obtain ⟨pn, rfl⟩ : ∃ pn : Nat, pp = pn := ⟨pp.toNat, by omega⟩
        have hrl := rowLoads_take (ls := loadsFrom (zeros cs.length) (gs.take i') (rows.take i')) hpp hnn
        generalize hcur : rowLoads (loadsFrom (zeros cs.length) (gs.take i') (rows.take i')) (g.1.take j) (row.take j) = cur at e4 e5 hrl
        have hcl : cur.length = cs.length := by rw [← hcur, rowLoads_len, loadsFrom_len]; simp [zeros]
        have hpl : pn < cur.length := by omega
        refine ⟨T2, _, rfl, SqT.of upd_same, rfl, _, _, rfl, _, _, rfl, rfl, ?_⟩
        refine ⟨.ref L, rfl, .int pn, rfl, L, _, pn, .int cur[pn], rfl, rfl, SqL.of e5, by rw [List.getElem?_map, List.getElem?_eq_getElem hpl]; rfl, .int nn, rfl, _, _, rfl, rfl, L, _, _, pn, rfl, rfl, e5, ixN_nat (by rw [List.length_map]; exact hpl), ?_⟩
        refine ⟨_, _, rfl, samePut (s4.trans (sameNew nT2)) fL, ?_⟩
        rw [upd_same, hrl]
        unfold addAt
        rw [Int.toNat_natCast, List.getD_eq_getElem?_getD, List.getElem?_eq_getElem hpl, List.map_set]
        rfl
      · rintro σ H4 ⟨y5, y6, rfl, s4, e4⟩
        refine ⟨_, _, _, _, rfl, s4, ?_⟩
        rw [loadsFrom_take hgi hri]
        rw [List.length_map, List.length_map, rowLoads_all] at e4
        exact e4
    · rintro σ H2 ⟨y3, y4, y5, y6, rfl, s2, e2⟩
      rw [DpAll.len hgs, DpAll.len hrows, List.length_map, List.length_map, loadsFrom_all] at e2
      refine ⟨.ref L, rfl, L, _, rfl, .inl ⟨SqL.of e2, fun p np => q _ _ (s2.trans (sameNew np)) (dI_sq (SqT.of upd_same))⟩⟩
end
end Pv

namespace Pv
open PySem PySem.Spec PyProof.Rows L2
section
variable {P : Program} {w : World} {K : PySem.W.Frag} {mg : Str → Option Value} {base : Heap}
def spLLoads (K : PySem.W.Frag) : Sp := fun vs H Q _ => ∃ (i a : Addr) (cs : List Int) (gs : List Gp) (rows : List (List Int)), vs = [.ref i, .ref a] ∧ Dp K H (.ref i) (dInst cs gs) ∧ Dp K H (.ref a) (dAsg rows) ∧
  cs.length ≤ 1000 ∧ InR cs.length gs ∧ ∀ H' p, Same H H' → H' p = some (.lst ((loadsOf cs.length gs rows).map V.int)) → Q (.ref p) H'
set_option maxHeartbeats 2000000 in
theorem ok_lloads {f : Addr} {fd : FuncData} {k : Nat} (F : Fun K "_law_loads" "_law_loads" sLLoads f fd) (ml : mg "len" = none) (mz : mg "zip" = none) :
    FnOk P w K mg base CX0 (k + 1) f fd ["_law_instance_here", "_law_assignment_here"] (spLLoads K) := by
  refine F.ok scLLoads (fun vs H Q E h => ?_) (fun cdv A outer s H vs Q E hr h => ?_)
  · obtain ⟨i, a, cs, gs, rows, rfl, _⟩ := h; rfl
  · obtain ⟨i, a, cs, gs, rows, rfl, hI, hA, hcs, hin, q⟩ := h
    refine ⟨_, pss_cons (ps_set (i := 2) scLLoads.nd rfl (.inl rfl) (pe_op op_rep (pe_lst (pa_cons pe_int pa_nil)) (pe_callB call_len_seq (by rfl) ml PySem.boot_len (pa_cons (pe_ix ix_tup (pv 0) pe_int (fun _ _ => rfl)) pa_nil))))
      (pss_cons (ps_for PassesOwn.never rfl (RZ.pi_zipA (by rfl) mz (pa_cons (pe_ix ix_tup (pv 0) pe_int (fun _ _ => rfl)) (pa_cons (pv 1) pa_nil)))
          (pg_tup rfl (pgs_cons (pg_tup rfl (pgs_cons (pg_name (i := 3) scLLoads.nd rfl (.inl rfl)) (pgs_cons (pg_name (i := 4) scLLoads.nd rfl (.inl rfl)) pgs_nil))) (pgs_cons (pg_name (i := 5) scLLoads.nd rfl (.inl rfl)) pgs_nil)))
          (pss_one (ps_for PassesOwn.never rfl (RZ.pi_zipA (by rfl) mz (pa_cons (pv 3) (pa_cons (pv 5) pa_nil)))
            (pg_tup rfl (pgs_cons (pg_name (i := 6) scLLoads.nd rfl (.inl rfl)) (pgs_cons (pg_name (i := 7) scLLoads.nd rfl (.inl rfl)) pgs_nil)))
            (pss_one (ps_asg (pe_op op_add (pe_ix ix_list (pv 2) (pv 6) (fun _ _ => rfl)) (pv 7)) (pg_sub (pv 2) (pv 6) set_list))))))
      (pss_one (ps_ret (pv 2)))), ?_⟩
    obtain ⟨_, ca, ga, xs, e, hi, hc, hg, hgs⟩ := inst_open hI
    cases e
    obtain ⟨_, ys, e, ha, hrows⟩ := asg_open hA
    cases e
    -- loads = [0] * len(instance[0])
    refine ⟨by decide, fun p0 n0 => ⟨.ref i, rfl, i, _, 0, .ref ca, rfl, rfl, (TupK.new n0).sq hi, atI_nat (j := 0) rfl, ca, _, rfl, .inr ((TupK.new n0).sq hc), p0, _, _, rfl, rfl, upd_same, by omega, ?_, ?_, fun L nL => ?_⟩⟩
    · rw [List.length_map]; omega
    · rw [List.length_map]; show 1 * _ ≤ sizeLine; have := small (n := cs.length) (by omega); simp; omega
    have fL : H L = none := freeOf nL
    have s1 : Same H (upd (upd H p0 (.lst [.int 0])) L (.lst (List.replicate ((List.map V.int cs).length : Int).toNat [V.int 0]).flatten)) := samePut (sameNew n0) fL
    -- the groups
    refine ⟨.ref i, rfl, i, _, 1, .ref ga, rfl, rfl, (TupK.of s1).sq hi, atI_nat (j := 1) rfl, .ref a, rfl, ga, a, xs, ys, rfl, .inr ⟨(TupK.of s1).sq hg, (TupK.of s1).sq ha, for_it (walk_zipT (K := K) (a := ga) (b := a) (xs := xs) (ys := ys) rfl)
      (fun i' σ H2 => ∃ y3 y4 y5 y6 y7, σ = [some (.ref i), some (.ref a), some (.ref L), y3, y4, y5, y6, y7] ∧ Same H H2 ∧ H2 L = some (.lst ((loadsFrom (zeros cs.length) (gs.take i') (rows.take i')).map V.int)))
      ⟨none, none, none, none, none, rfl, s1, ?_⟩ ?_ ?_ ?_⟩⟩
    · rw [upd_same, zeros_V, List.length_map]; simp [loadsFrom]
    · rintro i' σ H2 _ ⟨y3, y4, y5, y6, y7, rfl, s2, e2⟩
      exact ⟨(TupK.of s2).sq hg, (TupK.of s2).sq ha⟩
    · rintro i' v σ H2 H3 hlt ⟨y3, y4, y5, y6, y7, rfl, s2, e2⟩ ⟨T, x, y, rfl, nT, rfl, hx, hy⟩
      have hx' : xs[i']? = some x := hx
      have hy' : ys[i']? = some y := hy
      obtain ⟨d, hd, hxd⟩ := DpAll.at hgs hx'
      rw [List.getElem?_map] at hd
      obtain ⟨g, hgi, rfl⟩ := Option.map_eq_some_iff.mp hd
      obtain ⟨d, hd, hyd⟩ := DpAll.at hrows hy'
      rw [List.getElem?_map] at hd
      obtain ⟨row, hri, rfl⟩ := Option.map_eq_some_iff.mp hd
      have s3 : Same H (upd H2 T (.tup [x, y])) := s2.trans (sameNew nT)
      obtain ⟨gA, pA, rfl, hG, hP⟩ := grp_ref hxd
      obtain ⟨rA, rfl, hR⟩ := dI_ref hyd
      have e3 : (upd H2 T (.tup [.ref gA, .ref rA])) L = some (.lst ((loadsFrom (zeros cs.length) (gs.take i') (rows.take i')).map V.int)) := upNew nT e2
      have tk3 := TupK.of s3
      refine ⟨T, _, rfl, SqT.of upd_same, rfl, _, _, rfl, gA, _, rfl, tk3.sq hG, rfl, _, _, rfl, _, _, rfl, rfl, _, _, rfl, rfl, ?_⟩
      refine ⟨.ref pA, rfl, .ref rA, rfl, pA, rA, _, _, rfl, .inr ⟨tk3.sq hP, tk3.sq hR, for_it (walk_zipT (K := K) (a := pA) (b := rA) (xs := g.1.map V.int) (ys := row.map V.int) rfl)
        (fun j σ H4 => ∃ y6 y7, σ = [some (.ref i), some (.ref a), some (.ref L), some (.ref pA), some (.int g.2), some (.ref rA), y6, y7] ∧ Same H H4 ∧
          H4 L = some (.lst ((rowLoads (loadsFrom (zeros cs.length) (gs.take i') (rows.take i')) (g.1.take j) (row.take j)).map V.int)))
        ⟨y6, y7, rfl, s3, by simpa [rowLoads] using e3⟩ ?_ ?_ ?_⟩⟩
      · rintro j σ H4 _ ⟨y6, y7, rfl, s4, e4⟩
        exact ⟨(TupK.of s4).sq hP, (TupK.of s4).sq hR⟩
      · rintro j v σ H4 H5 hltj ⟨y6, y7, rfl, s4, e4⟩ ⟨T2, x, y, rfl, nT2, rfl, hx2, hy2⟩
        have hx2' : (g.1.map V.int)[j]? = some x := hx2
        have hy2' : (row.map V.int)[j]? = some y := hy2
        rw [List.getElem?_map] at hx2' hy2'
        obtain ⟨pp, hpp, rfl⟩ := Option.map_eq_some_iff.mp hx2'
        obtain ⟨nn, hnn, rfl⟩ := Option.map_eq_some_iff.mp hy2'
        have e5 := upNew (o := .tup [.int pp, .int nn]) nT2 e4
        have hpr := (hin g (List.mem_of_getElem? hgi)).2 pp (List.mem_of_getElem? hpp)
        obtain ⟨pn, rfl⟩ : ∃ pn : Nat, pp = pn := ⟨pp.toNat, by omega⟩
        have hrl := rowLoads_take (ls := loadsFrom (zeros cs.length) (gs.take i') (rows.take i')) hpp hnn
        generalize hcur : rowLoads (loadsFrom (zeros cs.length) (gs.take i') (rows.take i')) (g.1.take j) (row.take j) = cur at e4 e5 hrl
        have hcl : cur.length = cs.length := by rw [← hcur, rowLoads_len, loadsFrom_len]; simp [zeros]
        have hpl : pn < cur.length := by omega
        refine ⟨T2, _, rfl, SqT.of upd_same, rfl, _, _, rfl, _, _, rfl, rfl, ?_⟩
        refine ⟨.ref L, rfl, .int pn, rfl, L, _, _, .int cur[pn], rfl, rfl, SqL.of e5, atI_nat (by rw [List.getElem?_map, List.getElem?_eq_getElem hpl]; rfl), .int nn, rfl, _, _, rfl, rfl, .ref L, rfl, .int pn, rfl, L, _, _, pn, rfl, rfl, e5, ixN_nat (by rw [List.length_map]; exact hpl), ?_⟩
        refine ⟨_, _, rfl, samePut (s4.trans (sameNew nT2)) fL, ?_⟩
        rw [upd_same, hrl]
        unfold addAt
        rw [Int.toNat_natCast, List.getD_eq_getElem?_getD, List.getElem?_eq_getElem hpl, List.map_set]
        rfl
      · rintro σ H4 ⟨y6, y7, rfl, s4, e4⟩
        refine ⟨_, _, _, _, _, rfl, s4, ?_⟩
        rw [loadsFrom_take hgi hri]
        rw [List.length_map, List.length_map, rowLoads_all] at e4
        exact e4
    · rintro σ H2 ⟨y3, y4, y5, y6, y7, rfl, s2, e2⟩
      rw [DpAll.len hgs, DpAll.len hrows, List.length_map, List.length_map, loadsFrom_all] at e2
      exact ⟨.ref L, rfl, q _ _ s2 e2⟩

abbrev sUn : Stmt := topS 8
abbrev sEmpty : Stmt := topS 9
theorem scUn : FnScope ["instance", "assignment", "share"] ["instance", "assignment"] (defScope sUn) := ⟨rfl, rfl, rfl, by decide +kernel, rfl, by decide +kernel, by decide +kernel⟩
theorem scEmpty : FnScope ["instance", "posts", "count"] ["instance"] (defScope sEmpty) := ⟨rfl, rfl, rfl, by decide +kernel, rfl, by decide +kernel, by decide +kernel⟩
def lastI (row : List Int) : Int := row.getLastD 0
theorem last_at {row : List Int} (h : row ≠ []) : atI (row.map V.int) (-1) = some (.int (lastI row)) := by
  have e : row = row.dropLast ++ [lastI row] := by
    unfold lastI
    rw [List.getLastD_eq_getLast?, List.getLast?_eq_some_getLast h]
    exact (List.dropLast_concat_getLast h).symm
  rw [e, List.map_append, List.map_singleton, ← e]
  exact atI_last _ _
def spUn (K : PySem.W.Frag) : Sp := fun vs H Q _ => ∃ (i a : Addr) (rows : List (List Int)), vs = [.ref i, .ref a] ∧ Dp K H (.ref a) (dAsg rows) ∧ rows.length ≤ 1000 ∧ (∀ row ∈ rows, row ≠ []) ∧
  ∀ H', Same H H' → Q (.int (rows.map lastI).sum) H'
theorem ok_un {f : Addr} {fd : FuncData} {k : Nat} (F : Fun K "unassigned_count" "unassigned_count" sUn f fd) (ms : mg "sum" = none) :
    FnOk P w K mg base CX0 (k + 1) f fd ["instance", "assignment"] (spUn K) := by
  refine F.ok scUn (fun vs H Q E h => ?_) (fun cdv A outer s H vs Q E hr h => ?_)
  · obtain ⟨i, a, rows, rfl, _⟩ := h; rfl
  · obtain ⟨i, a, rows, rfl, hA, hn, hne, q⟩ := h
    refine ⟨_, pss_one (ps_ret (pe_callB (cr_sum rfl) (by rfl) ms (by decide +kernel) (pa_cons
          (pe_lc (own := [("share", 2)]) (g := gName 2) (tt := tYes) (te := tOp (rIxT K) (tVar 2) (tUn (rU fun i => .int (-i)) (tC (.int 1)))) rfl scUn.nd (pi_tup (pv 1)) (blkOk_by (N := ["instance", "assignment", "share"]) (sc := defScope sUn) (by decide +kernel))
            (fun _ _ _ _ _ => pg_name (i := 2) scUn.nd rfl (.inl rfl)) (fun _ _ _ _ _ => pts_nil)
            (fun _ _ _ _ _ => pe_ix ix_tup (pv 2) (pe_un un_neg pe_int) (fun _ _ => rfl)))
          pa_nil))), ?_⟩
    obtain ⟨_, ys, e, ha, hrows⟩ := asg_open hA
    cases e
    refine ⟨.ref a, rfl, a, rfl, ⟨_, ha⟩, fun D nD => lc_tup (xs := ys)
      (fun i H2 => Same H H2 ∧ H2 D = some (.lst (((rows.take i).map lastI).map V.int))) ⟨sameNew nD, upd_same⟩ (fun i H2 _ h2 => (TupK.of h2.1).sq ha) ?_ ?_⟩
    · rintro j x H2 hx ⟨s2, e2⟩
      obtain ⟨d, hd, hxd⟩ := DpAll.at hrows hx
      rw [List.getElem?_map] at hd
      obtain ⟨row, hri, rfl⟩ := Option.map_eq_some_iff.mp hd
      obtain ⟨rA, rfl, hR⟩ := dI_ref hxd
      refine ⟨rfl, .ref rA, rfl, 1, rfl, rA, _, _, _, rfl, rfl, (TupK.of s2).sq hR, last_at (hne row (List.mem_of_getElem? hri)), _, e2, ?_, samePut s2 nD, ?_⟩
      · rw [List.length_map, List.length_map, List.length_take]; exact small (by omega)
      · rw [upd_same, List.take_add_one, hri]; simp
    · rintro H2 ⟨s2, e2⟩
      rw [DpAll.len hrows, List.length_map, List.take_length] at e2
      exact ⟨D, _, rfl, SqL.of e2, q _ s2⟩
def emptyRow (g : Gp) : List Int := zeros g.1.length ++ [g.2]
def spEmpty (K : PySem.W.Frag) : Sp := fun vs H Q _ => ∃ (i : Addr) (cs : List Int) (gs : List Gp), vs = [.ref i] ∧ Dp K H (.ref i) (dInst cs gs) ∧ gs.length ≤ 1000 ∧ (∀ g ∈ gs, g.1.length ≤ 900) ∧
  ∀ H' p, Same H H' → Dp K H' (.ref p) (dAsg (gs.map emptyRow)) → Q (.ref p) H'
theorem ok_empty {f : Addr} {fd : FuncData} {k : Nat} (F : Fun K "empty_assignment" "empty_assignment" sEmpty f fd) (ml : mg "len" = none) (mt : mg "tuple" = none) :
    FnOk P w K mg base CX0 (k + 1) f fd ["instance"] (spEmpty K) := by
  refine F.ok scEmpty (fun vs H Q E h => ?_) (fun cdv A outer s H vs Q E hr h => ?_)
  · obtain ⟨i, cs, gs, rfl, _⟩ := h; rfl
  · obtain ⟨i, cs, gs, rfl, hI, hn, hle, q⟩ := h
    refine ⟨_, pss_one (ps_ret (pe_callTy call_tuple_of (by rfl) mt (by decide +kernel) (pa_cons
          (pe_lc (own := [("posts", 1), ("count", 2)]) (g := gTup K 2 (gCons (gName 1) (gCons (gName 2) gNil))) (tt := tYes) (te := tOp (rCatA K) (tOp (rRepA K) (tTup (tCons (tC (.int 0)) tNil)) (tCB (rLenQ K) (tCons (tVar 1) tNil))) (tTup (tCons (tVar 2) tNil))) rfl scEmpty.nd (pi_tup (pe_ix ix_tup (pv 0) pe_int (fun _ _ => rfl))) (blkOk_by (N := ["instance", "posts", "count"]) (sc := defScope sEmpty) (by decide +kernel))
            (fun _ _ _ _ _ => pg_tup rfl (pgs_cons (pg_name (i := 1) scEmpty.nd rfl (.inl rfl)) (pgs_cons (pg_name (i := 2) scEmpty.nd rfl (.inl rfl)) pgs_nil))) (fun _ _ _ _ _ => pts_nil)
            (fun _ _ _ _ _ => pe_op op_catA (pe_op op_repA (pe_tup (pa_cons pe_int pa_nil)) (pe_callB call_lenQ (by rfl) ml PySem.boot_len (pa_cons (pv 1) pa_nil))) (pe_tup (pa_cons (pv 2) pa_nil))))
          pa_nil))), ?_⟩
    obtain ⟨_, ca, ga, xs, e, hi, hc, hg, hgs⟩ := inst_open hI
    cases e
    refine ⟨.ref i, rfl, i, _, 1, .ref ga, rfl, rfl, hi, atI_nat (j := 1) rfl, ga, rfl, ⟨_, hg⟩, fun D nD => lc_tup (xs := xs)
      (fun j H2 => Same H H2 ∧ ∃ vs, H2 D = some (.lst vs) ∧ vs.length = j ∧ DpAll K H2 vs (((gs.take j).map emptyRow).map dI)) ⟨sameNew nD, [], upd_same, rfl, .nil⟩ (fun j H2 _ h2 => (TupK.of h2.1).sq hg) ?_ ?_⟩
    · rintro j x H2 hx ⟨s2, vs, e2, hvl, hvs⟩
      obtain ⟨d, hd, hxd⟩ := DpAll.at hgs hx
      rw [List.getElem?_map] at hd
      obtain ⟨g, hgi, rfl⟩ := Option.map_eq_some_iff.mp hd
      obtain ⟨gA, pA, rfl, hG, hP⟩ := grp_ref hxd
      have tk2 := TupK.of s2
      have hgl := hle g (List.mem_of_getElem? hgi)
      have hjl : j < gs.length := (List.getElem?_eq_some_iff.mp hgi).1
      -- behind the row: the list D takes it
      have fin : ∀ (H4 : Hp) (p : Addr), Same H2 H4 → SqT K H4 p ((emptyRow g).map V.int) → ∃ acc, H4 D = some (.lst acc) ∧ acc.length < sizeLine ∧
          (Same H (upd H4 D (.lst (acc ++ [.ref p]))) ∧ ∃ vs, (upd H4 D (.lst (acc ++ [.ref p]))) D = some (.lst vs) ∧ vs.length = j + 1 ∧ DpAll K (upd H4 D (.lst (acc ++ [.ref p]))) vs (((gs.take (j + 1)).map emptyRow).map dI)) := by
        intro H4 p s4 h4
        have e4 := s4 _ _ e2
        have tk4 : TupK H4 (upd H4 D (.lst (vs ++ [.ref p]))) := TupK.put e4
        refine ⟨vs, e4, by rw [hvl]; exact small (by omega), samePut (s2.trans s4) nD, _, upd_same, by simp [hvl], ?_⟩
        have et : ((gs.take (j + 1)).map emptyRow).map dI = ((gs.take j).map emptyRow).map dI ++ [dI (emptyRow g)] := by rw [List.take_add_one, hgi]; simp
        rw [et]
        exact DpAll.snoc (((TupK.of s4).trans tk4).dpAll _ _ (to_rows _) hvs) (dI_sq (tk4.sq h4))
      refine ⟨gA, _, rfl, tk2.sq hG, rfl, _, _, rfl, _, _, rfl, rfl, rfl, by decide, fun p0 n0 => ⟨.ref pA, rfl, pA, _, rfl, .inr ((TupK.new n0).sq (tk2.sq hP)), p0, (g.1.map V.int).length, _, rfl, rfl, SqT.of upd_same, by simp, by rw [List.length_map]; omega, by decide, fun h1 => ?_, fun h1 p1 n1 => ?_⟩⟩
      · refine ⟨.int g.2, rfl, (show (1 : Nat) ≤ sizeLine by decide), fun p2 n2 => ⟨p0, p2, _, _, rfl, rfl, SqT.of (upNew n2 upd_same), SqT.of upd_same, (show (2 : Nat) ≤ sizeLine by decide), (fun z => by cases z), (fun _ z => by cases z), fun _ _ p3 n3 => fin _ _ (((sameNew n0).trans (sameNew n2)).trans (sameNew n3)) (SqT.of ?_)⟩⟩
        rw [List.length_map] at h1
        rw [upd_same]
        unfold emptyRow
        rw [h1]
        rfl
      · have er : (List.replicate (g.1.map V.int).length [V.int 0]).flatten = (zeros g.1.length).map V.int := by rw [List.length_map, zeros_V]
        refine ⟨.int g.2, rfl, (show (1 : Nat) ≤ sizeLine by decide), fun p2 n2 => ⟨p1, p2, _, _, rfl, rfl, SqT.of (upNew n2 upd_same), SqT.of upd_same, ?_, fun z => ?_, (fun _ z => by cases z), fun _ _ p3 n3 => fin _ _ ((((sameNew n0).trans (sameNew n1)).trans (sameNew n2)).trans (sameNew n3)) (SqT.of ?_)⟩⟩
        · rw [er, List.length_map]; simp [zeros]; have := small (n := g.1.length + 1) (by omega); omega
        · rw [er] at z
          have z2 : zeros g.1.length = [] := List.map_eq_nil_iff.mp z
          refine fin _ _ (((sameNew n0).trans (sameNew n1)).trans (sameNew n2)) (SqT.of ?_)
          rw [upd_same]
          unfold emptyRow
          rw [z2]
          rfl
        · rw [upd_same, er]
          unfold emptyRow
          rw [List.map_append]
          rfl
    · rintro H2 ⟨s2, vs, e2, hvl, hvs⟩
      rw [DpAll.len hgs, List.length_map, List.take_length] at hvs
      exact ⟨D, _, rfl, .inl ⟨SqL.of e2, fun p np => q _ _ (s2.trans (sameNew np)) (.tup (SqT.of upd_same) ((TupK.new np).dpAll _ _ (to_rows _) hvs))⟩⟩
end
end Pv

namespace Pv
open PySem PySem.Spec PyProof.Rows L2
def Shp (gs : List Gp) (rows : List (List Int)) : Prop := rows.length = gs.length ∧ ∀ (i : Nat) (g : Gp) (row : List Int), gs[i]? = some g → rows[i]? = some row → row.length = g.1.length + 1
theorem zip_snoc {α β : Type} {a : List α} {b : List β} {i : Nat} {x : α} {y : β} (hx : a[i]? = some x) (hy : b[i]? = some y) : (a.take (i + 1)).zip (b.take (i + 1)) = (a.take i).zip (b.take i) ++ [(x, y)] := by
  rw [zip_take, zip_take, List.take_add_one]
  have : (a.zip b)[i]? = some (x, y) := by
    rw [List.getElem?_zip_eq_some]; exact ⟨hx, hy⟩
  rw [this]; rfl
def isAsg (cs : List Int) (gs : List Gp) (rows : List (List Int)) : Bool := (gs.zip rows).all (fun q => shareOk q.1.2 q.2) && ((loadsOf cs.length gs rows).zip cs).all (fun q => decide (q.1 ≤ q.2))
section
variable {P : Program} {w : World} {K : PySem.W.Frag} {mg : Str → Option Value} {base : Heap}
def spIsA (K : PySem.W.Frag) : Sp := fun vs H Q _ => ∃ (i a : Addr) (cs : List Int) (gs : List Gp) (rows : List (List Int)), vs = [.ref i, .ref a] ∧ Dp K H (.ref i) (dInst cs gs) ∧ Dp K H (.ref a) (dAsg rows) ∧
  cs.length ≤ 900 ∧ gs.length ≤ 900 ∧ InR cs.length gs ∧ (∀ g ∈ gs, g.1.length ≤ 900) ∧ Shp gs rows ∧ ∀ H', Same H H' → Q (.bl (isAsg cs gs rows)) H'
set_option maxHeartbeats 2000000 in
theorem ok_IA {f fTo fSp fLo : Addr} {fd fdTo fdSp fdLo : FuncData} (F : Fun K "is_assignment" "is_assignment" sIA f fd)
    (FTo : Fun K "is_tuple_of" "is_tuple_of" sTupOf fTo fdTo) (bTo : Binds K fdTo ["value", "least", "most"] []) (gTo : mg "is_tuple_of" = some (.ref fTo)) (GTo : FnOk P w K mg base CX0 1 fTo fdTo ["value", "least", "most"] (spTupOf K))
    (FSp : Fun K "is_split" "is_split" sSp fSp fdSp) (bSp : Binds K fdSp ["value", "size", "total"] []) (gSp : mg "is_split" = some (.ref fSp)) (GSp : FnOk P w K mg base CX0 3 fSp fdSp ["value", "size", "total"] (spSplit K))
    (FLo : Fun K "post_loads" "post_loads" sLoads fLo fdLo) (bLo : Binds K fdLo ["instance", "assignment"] []) (gLo : mg "post_loads" = some (.ref fLo)) (GLo : FnOk P w K mg base CX0 1 fLo fdLo ["instance", "assignment"] (spLoads K))
    (m_len : mg "len" = none) (m_zip : mg "zip" = none) (m_all : mg "all" = none) :
    FnOk P w K mg base CX0 4 f fd ["instance", "value"] (spIsA K) := by
  refine F.ok scIA (fun vs H Q E h => ?_) (fun cdv A outer s H vs Q E hr h => ?_)
  · obtain ⟨i, a, cs, gs, rows, rfl, _⟩ := h; rfl
  · obtain ⟨i, a, cs, gs, rows, rfl, hI, hA, hcs, hgn, hin, hgl, hsh, q⟩ := h
    refine ⟨_, pss_cons (ps_asg (pv 0) (pg_tup rfl (pgs_cons (pg_name (i := 2) scIA.nd rfl (.inl rfl)) (pgs_cons (pg_name (i := 3) scIA.nd rfl (.inl rfl)) pgs_nil))))
      (pss_cons (ps_if (pt_not (pt_val (pe_call GTo (hr.mono (by omega)) (by rfl) gTo FTo.kp bTo .nil pass0 (pa_cons (pv 1) (pa_cons (pe_callB call_lenQ (by rfl) m_len PySem.boot_len (pa_cons (pv 3) pa_nil)) (pa_cons (pe_callB call_lenQ (by rfl) m_len PySem.boot_len (pa_cons (pv 3) pa_nil)) pa_nil))))))
        (pss_one (ps_ret (pe_bl))) pss_nil)
      (pss_cons (ps_if (pt_not (pt_val (pe_callB (cr_all rfl) (by rfl) m_all (by decide +kernel) (pa_cons (pe_lc (own := [("posts", 4), ("count", 5), ("share", 6)]) (g := gTup K 2 (gCons (gTup K 2 (gCons (gName 4) (gCons (gName 5) gNil))) (gCons (gName 6) gNil))) (tt := tYes) (te := tCall (spSplit K) [] E0 (tCons (tVar 6) (tCons (tOp (rI0 fun i j => .int (i + j)) (tCB (rLenQ K) (tCons (tVar 4) tNil)) (tC (.int 1))) (tCons (tVar 5) tNil)))) rfl scIA.nd (RZ.pi_zipA (by rfl) m_zip (pa_cons (pv 3) (pa_cons (pv 1) pa_nil))) (blkOk_by (N := ["instance", "value", "capacities", "groups", "posts", "count", "share", "load", "capacity"]) (sc := defScope sIA) (by decide +kernel)) (fun _ _ _ _ _ => pg_tup rfl (pgs_cons (pg_tup rfl (pgs_cons (pg_name (i := 4) scIA.nd rfl (.inl rfl)) (pgs_cons (pg_name (i := 5) scIA.nd rfl (.inl rfl)) pgs_nil))) (pgs_cons (pg_name (i := 6) scIA.nd rfl (.inl rfl)) pgs_nil))) (fun _ _ _ _ _ => pts_nil) (fun _ _ _ _ _ => pe_call GSp (hr.mono (by omega)) (by rfl) gSp FSp.kp bSp .nil pass0 (pa_cons (pv 6) (pa_cons (pe_op op_add (pe_callB call_lenQ (by rfl) m_len PySem.boot_len (pa_cons (pv 4) pa_nil)) (pe_int)) (pa_cons (pv 5) pa_nil))))) pa_nil))))
        (pss_one (ps_ret (pe_bl))) pss_nil)
      (pss_one (ps_ret (pe_callB (cr_all rfl) (by rfl) m_all (by decide +kernel) (pa_cons (pe_lc (own := [("load", 7), ("capacity", 8)]) (g := gTup K 2 (gCons (gName 7) (gCons (gName 8) gNil))) (tt := tYes) (te := tOp (rI0 fun i j => .bl (decide (i ≤ j))) (tVar 7) (tVar 8)) rfl scIA.nd (RZ.pi_zipA (by rfl) m_zip (pa_cons (pe_call GLo (hr.mono (by omega)) (by rfl) gLo FLo.kp bLo .nil pass0 (pa_cons (pv 0) (pa_cons (pv 1) pa_nil))) (pa_cons (pv 2) pa_nil))) (blkOk_by (N := ["instance", "value", "capacities", "groups", "posts", "count", "share", "load", "capacity"]) (sc := defScope sIA) (by decide +kernel)) (fun _ _ _ _ _ => pg_tup rfl (pgs_cons (pg_name (i := 7) scIA.nd rfl (.inl rfl)) (pgs_cons (pg_name (i := 8) scIA.nd rfl (.inl rfl)) pgs_nil))) (fun _ _ _ _ _ => pts_nil) (fun _ _ _ _ _ => pe_cmpR op_le (pv 7) (pv 8) (nomark _))) pa_nil)))))), ?_⟩
    obtain ⟨_, ca, ga, xs, e, hi, hc, hg, hgs⟩ := inst_open hI
    cases e
    obtain ⟨_, ys, e, ha, hrows⟩ := asg_open hA
    cases e
    have lx := DpAll.len hgs
    have ly := DpAll.len hrows
    rw [List.length_map] at lx ly
    refine ⟨.ref i, rfl, i, _, rfl, hi, rfl, .ref ca, _, rfl, .ref ga, _, rfl, rfl, ?_⟩
    refine ⟨.ref a, rfl, .ref ga, rfl, ga, xs, rfl, .inr hg, .ref ga, rfl, ga, xs, rfl, .inr hg, a, ys, _, _, rfl, ha, ?_⟩
    have hb : decide ((xs.length : Int) ≤ ys.length ∧ (ys.length : Int) ≤ xs.length) = true := decide_eq_true (by rw [lx, ly, hsh.1]; omega)
    rw [hb]
    refine ⟨_, rfl, iteF ?_⟩
    refine ⟨.ref ga, rfl, .ref a, rfl, ga, a, xs, ys, rfl, .inr ⟨hg, ha, fun D nD => lc_it (walk_zipT (K := K) (a := ga) (b := a) (xs := xs) (ys := ys) rfl)
      (fun j H2 => Same H H2 ∧ H2 D = some (.lst ((((gs.take j).zip (rows.take j)).map (fun q => shareOk q.1.2 q.2)).map V.bl))) ⟨sameNew nD, upd_same⟩ (fun j H2 _ h2 => ⟨(TupK.of h2.1).sq hg, (TupK.of h2.1).sq ha⟩) ?_ ?_⟩⟩
    · rintro j v H2 H3 hlt ⟨s2, e2⟩ ⟨T, x, y, rfl, nT, rfl, hx, hy⟩
      have hx' : xs[j]? = some x := hx
      have hy' : ys[j]? = some y := hy
      obtain ⟨d, hd, hxd⟩ := DpAll.at hgs hx'
      rw [List.getElem?_map] at hd
      obtain ⟨g, hgi, rfl⟩ := Option.map_eq_some_iff.mp hd
      obtain ⟨d, hd, hyd⟩ := DpAll.at hrows hy'
      rw [List.getElem?_map] at hd
      obtain ⟨row, hri, rfl⟩ := Option.map_eq_some_iff.mp hd
      obtain ⟨gA, pA, rfl, hG, hP⟩ := grp_ref hxd
      obtain ⟨rA, rfl, hR⟩ := dI_ref hyd
      have s3 : Same H (upd H2 T (.tup [.ref gA, .ref rA])) := s2.trans (sameNew nT)
      have tk3 := TupK.of s3
      have hrl := hsh.2 j g row hgi hri
      have hgl' := hgl g (List.mem_of_getElem? hgi)
      have hjl : j < gs.length := (List.getElem?_eq_some_iff.mp hgi).1
      have en : (((g.1.map V.int).length : Nat) : Int) + 1 = (row.length : Int) := by rw [List.length_map]; omega
      refine ⟨T, _, rfl, SqT.of upd_same, rfl, _, _, rfl, gA, _, rfl, tk3.sq hG, rfl, _, _, rfl, _, _, rfl, rfl, _, _, rfl, rfl, rfl, .ref rA, rfl, .ref pA, rfl, pA, _, rfl, .inr (tk3.sq hP), _, _, rfl, rfl, .int g.2, rfl, rA, row, g.2, congrArg (fun z => [V.ref rA, V.int z, V.int g.2]) en, tk3.dp _ _ (to_dI row) hyd, by omega, fun H4 s4 => ⟨_, s4 _ _ (upNew nT e2), ?_, samePut (s3.trans s4) nD, ?_⟩⟩
      · rw [List.length_map, List.length_map, List.length_zip, List.length_take]; exact small (by omega)
      · rw [upd_same, zip_snoc hgi hri]; simp
    · rintro H2 ⟨s2, e2⟩
      rw [lx, ly, zip_take, List.take_of_length_le (by rw [List.length_zip]; exact Nat.le_refl _)] at e2
      refine ⟨D, _, rfl, SqL.of e2, _, rfl, ?_⟩
      have tk2 := TupK.of s2
      cases hall : ((gs.zip rows).map (fun q => shareOk q.1.2 q.2)).all id with
      | false =>
        have e : isAsg cs gs rows = false := by
          unfold isAsg
          rw [List.all_map] at hall
          rw [show (gs.zip rows).all (fun q => shareOk q.1.2 q.2) = false from hall, Bool.false_and]
        have := q H2 s2
        rw [e] at this
        exact this
      | true =>
        have e : isAsg cs gs rows = ((loadsOf cs.length gs rows).zip cs).all (fun q => decide (q.1 ≤ q.2)) := by
          unfold isAsg
          rw [List.all_map] at hall
          rw [show (gs.zip rows).all (fun q => shareOk q.1.2 q.2) = true from hall, Bool.true_and]
        refine ⟨.ref i, rfl, .ref a, rfl, i, a, cs, gs, rows, rfl, tk2.dp _ _ (to_dInst _ _) hI, tk2.dp _ _ (to_dAsg _) hA, by omega, hin, fun H3 p s3 hp => ?_⟩
        have sp := sq_dI hp
        have s03 := s2.trans s3
        have hc3 := (TupK.of s03).sq hc
        refine ⟨.ref ca, rfl, p, ca, _, _, rfl, .inr ⟨sp, hc3, fun D2 nD2 => lc_it (walk_zipT (K := K) (a := p) (b := ca) (xs := (loadsOf cs.length gs rows).map V.int) (ys := cs.map V.int) rfl)
          (fun j H4 => Same H3 H4 ∧ H4 D2 = some (.lst (((((loadsOf cs.length gs rows).take j).zip (cs.take j)).map (fun q => decide (q.1 ≤ q.2))).map V.bl))) ⟨sameNew nD2, upd_same⟩ (fun j H4 _ h4 => ⟨(TupK.of h4.1).sq sp, (TupK.of h4.1).sq hc3⟩) ?_ ?_⟩⟩
        · rintro j v H4 H5 hlt ⟨s4, e4⟩ ⟨T, x, y, rfl, nT, rfl, hx, hy⟩
          have hx' : ((loadsOf cs.length gs rows).map V.int)[j]? = some x := hx
          have hy' : (cs.map V.int)[j]? = some y := hy
          rw [List.getElem?_map] at hx' hy'
          obtain ⟨l, hl, rfl⟩ := Option.map_eq_some_iff.mp hx'
          obtain ⟨c, hcj, rfl⟩ := Option.map_eq_some_iff.mp hy'
          have hjl : j < cs.length := (List.getElem?_eq_some_iff.mp hcj).1
          refine ⟨T, _, rfl, SqT.of upd_same, rfl, _, _, rfl, _, _, rfl, rfl, rfl, .int l, rfl, .int c, rfl, _, _, rfl, rfl, _, upNew nT e4, ?_, samePut (s4.trans (sameNew nT)) nD2, ?_⟩
          · rw [List.length_map, List.length_map, List.length_zip, List.length_take, List.length_take]; exact small (by omega)
          · rw [upd_same, zip_snoc hl hcj]; simp
        · rintro H4 ⟨s4, e4⟩
          rw [List.length_map, List.length_map, zip_take, List.take_of_length_le (by rw [List.length_zip]; exact Nat.le_refl _)] at e4
          refine ⟨D2, _, rfl, SqL.of e4, ?_⟩
          have := q H4 (s03.trans s4)
          rw [e] at this
          rw [List.all_map]
          exact this
end
end Pv

namespace Pv
open PySem PySem.Spec PyProof.Rows L2
abbrev sStart : Stmt := topS 11
abbrev sFar : Stmt := topS 14
theorem scStart : FnScope ["_law_script", "_law_cells", "_law_cell"] ["_law_script"] (defScope sStart) := ⟨rfl, rfl, rfl, by decide +kernel, rfl, by decide +kernel, by decide +kernel⟩
theorem scFar : FnScope ["_law_state", "_law_most", "_law_small"] ["_law_state", "_law_most"] (defScope sFar) := ⟨rfl, rfl, rfl, by decide +kernel, rfl, by decide +kernel, by decide +kernel⟩
theorem take_snoc {α : Type} {l : List α} {i : Nat} {x : α} (h : l[i]? = some x) : l.take (i + 1) = l.take i ++ [x] := by rw [List.take_add_one, h]; rfl
theorem cut_to (xs : List V) (n : Nat) : cutV xs none (some (n : Int)) = xs.take n := by
  unfold cutV
  rw [HT.sIx_none, HT.sIx_nat, List.drop_zero, Nat.sub_zero]
  by_cases h : n ≤ xs.length
  · rw [Nat.min_eq_left h]
  · rw [Nat.min_eq_right (by omega), List.take_length, List.take_of_length_le (by omega)]
def absI (i : Int) : Int := if i < 0 then -i else i
theorem absI_nn (i : Int) : 0 ≤ absI i := by unfold absI; split <;> omega
def restI (c : Int) : Int := c * (if decide ((10 : Int) ^ (18 : Int).toNat ≤ c) = true then 1 else 0)
theorem restI_nn {c : Int} (h : 0 ≤ c) : 0 ≤ restI c := by unfold restI; split <;> omega
section
variable {P : Program} {w : World} {K : PySem.W.Frag} {mg : Str → Option Value} {base : Heap}
def spStart (K : PySem.W.Frag) : Sp := fun vs H Q _ => ∃ (a : Addr) (ns : List Int), vs = [.ref a] ∧ SqL K H a (ns.map V.int) ∧ ns.length ≤ 63 ∧
  ∀ H' st c r, Same H H' → DS H' st c r 0 → Q (.ref st) H'
set_option maxHeartbeats 2000000 in
theorem ok_start {f : Addr} {fd : FuncData} {k : Nat} (F : Fun K "_law_start" "_law_start" sStart f fd) (ma : mg "abs" = none) (mi : mg "int" = none) (ml : mg "len" = none) :
    FnOk P w K mg base CX0 (k + 1) f fd ["_law_script"] (spStart K) := by
  refine F.ok scStart (fun vs H Q E h => ?_) (fun cdv A outer s H vs Q E hr h => ?_)
  · obtain ⟨a, ns, rfl, _⟩ := h; rfl
  · obtain ⟨a, ns, rfl, hS, hn, q⟩ := h
    refine ⟨_, pss_cons (ps_set (i := 1) scStart.nd rfl (.inl rfl) (pe_op op_cat
        (pe_lc (own := [("_law_cell", 2)]) (g := gName 2) (tt := tYes) rfl scStart.nd (pi_list (pe_slice sl_list (pv 0) po_none (po_some pe_int))) (blkOk_by (N := ["_law_script", "_law_cells", "_law_cell"]) (sc := defScope sStart) (by decide +kernel))
            (fun _ _ _ _ _ => pg_name (i := 2) scStart.nd rfl (.inl rfl)) (fun _ _ _ _ _ => pts_nil)
            (fun _ _ _ _ _ => pe_callB call_abs (by rfl) ma (by decide +kernel) (pa_cons (pv 2) pa_nil)))
        (pe_op op_rep (pe_lst (pa_cons pe_int pa_nil)) (pe_callTy call_int1 (by rfl) mi (by decide +kernel) (pa_cons (pe_cmpR op_eq (pe_callB call_len_seq (by rfl) ml PySem.boot_len (pa_cons (pv 0) pa_nil)) pe_int (nomark _)) pa_nil)))))
      (pss_one (ps_ret (pe_lst (pa_cons (pv 1) (pa_cons
        (pe_lc (own := [("_law_cell", 2)]) (g := gName 2) (tt := tYes) rfl scStart.nd (pi_list (pv 1)) (blkOk_by (N := ["_law_script", "_law_cells", "_law_cell"]) (sc := defScope sStart) (by decide +kernel))
            (fun _ _ _ _ _ => pg_name (i := 2) scStart.nd rfl (.inl rfl)) (fun _ _ _ _ _ => pts_nil)
            (fun _ _ _ _ _ => pe_op op_mul (pv 2) (pe_callTy call_int1 (by rfl) mi (by decide +kernel) (pa_cons (pe_cmpR op_ge (pv 2) (pe_op op_pow pe_int pe_int) (nomark _)) pa_nil))))
        (pa_cons pe_int pa_nil)))))), ?_⟩
    have hcut : cutV (ns.map V.int) none (some 60) = (ns.take 60).map V.int := by rw [List.map_take]; exact cut_to _ 60
    refine ⟨.ref a, rfl, 60, rfl, a, _, rfl, hS, fun p np => ⟨p, rfl, ⟨_, SqL.of upd_same⟩, fun D nD => lc_list (xs := cutV (ns.map V.int) none (some 60))
      (fun j H2 => Same (upd H p (.lst (cutV (ns.map V.int) none (some 60)))) H2 ∧ H2 D = some (.lst ((((ns.take 60).map absI).take j).map V.int)))
      ⟨sameNew nD, upd_same⟩ (fun j H2 _ h2 => SqL.of (h2.1 _ _ upd_same)) ?_ ?_⟩⟩
    · rintro j x H2 hx ⟨s2, e2⟩
      rw [hcut, List.getElem?_map] at hx
      obtain ⟨z, hz, rfl⟩ := Option.map_eq_some_iff.mp hx
      refine ⟨rfl, .int z, rfl, z, rfl, _, e2, ?_, samePut s2 nD, ?_⟩
      · rw [List.length_map, List.length_take]; simp; exact small (by omega)
      · rw [upd_same, take_snoc (show ((ns.take 60).map absI)[j]? = some (absI z) by rw [List.getElem?_map, hz]; rfl), List.map_append]; rfl
    · rintro H2 ⟨s2, e2⟩
      rw [hcut, List.length_map, List.take_of_length_le (by simp)] at e2
      have s02 : Same H H2 := (sameNew np).trans s2
      -- [13] * int(len(script) == 0)
      refine ⟨by decide, fun p1 n1 => ⟨.ref a, rfl, a, _, rfl, .inl (((s02.trans (sameNew n1))).seq hS), rfl, .inr ⟨_, rfl, p1, _, _, rfl, rfl, upd_same, by split <;> decide, by split <;> decide, by split <;> decide, fun p2 n2 => ?_⟩⟩⟩
      generalize hb : decide (V.int ((List.map V.int ns).length : Int) = V.int 0) = b at n2 ⊢
      have e2' := upNew n2 (o := .lst (List.replicate (if b = true then (1 : Int) else 0).toNat [V.int 13]).flatten) (upNew n1 (o := .lst [.int 13]) e2)
      have hl0 : ns.length = 0 ↔ b = true := by
        rw [← hb, decide_eq_true_eq, List.length_map]
        constructor
        · intro h; rw [h]; rfl
        · intro h; have := V.int.inj h; omega
      have hrep : (List.replicate (if b = true then (1 : Int) else 0).toNat [V.int 13]).flatten = ((if b = true then [13] else []) : List Int).map V.int := by
        cases b <;> rfl
      refine ⟨D, p2, _, _, rfl, rfl, e2', upd_same, ?_, fun C nC => ?_⟩
      · rw [hrep, List.length_map, List.length_map, List.length_map, List.length_take]; have : (if b = true then [13] else [] : List Int).length ≤ 1 := by split <;> simp
        have h5 := small (n := 100) (by omega); omega
      rw [hrep, ← List.map_append] at *
      generalize hcl : (List.take 60 ns).map absI ++ (if b = true then [13] else []) = cells
      have hnn : ∀ c ∈ cells, 0 ≤ c := by
        intro c hc
        rw [← hcl, List.mem_append] at hc
        rcases hc with h | h
        · obtain ⟨i, _, rfl⟩ := List.mem_map.mp h; exact absI_nn i
        · split at h
          · simp at h; omega
          · simp at h
      have hcl0 : 0 < cells.length ∧ cells.length ≤ 61 := by
        rw [← hcl, List.length_append, List.length_map, List.length_take]
        by_cases hb1 : b = true
        · rw [if_pos hb1]; simp; omega
        · rw [if_neg hb1]
          have : ns.length ≠ 0 := fun z => hb1 (hl0.mp z)
          simp; omega
      generalize hHC : upd (upd (upd H2 p1 (.lst [.int 13])) p2 (.lst (((if b = true then [13] else []) : List Int).map V.int))) C (.lst (cells.map V.int)) = HC
      have eC : HC C = some (.lst (cells.map V.int)) := by rw [← hHC]; exact upd_same
      have s0C : Same H HC := by rw [← hHC]; exact ((s02.trans (sameNew n1)).trans (sameNew n2)).trans (sameNew nC)
      refine ⟨.ref C, rfl, .ref C, rfl, C, rfl, ⟨_, SqL.of eC⟩, fun R nR => lc_list (xs := cells.map V.int)
        (fun j H3 => Same HC H3 ∧ H3 R = some (.lst (((cells.map restI).take j).map V.int))) ⟨sameNew nR, upd_same⟩ (fun j H3 _ h3 => SqL.of (h3.1 _ _ eC)) ?_ ?_⟩
      · rintro j x H3 hx ⟨s3, e3⟩
        rw [List.getElem?_map] at hx
        obtain ⟨z, hz, rfl⟩ := Option.map_eq_some_iff.mp hx
        refine ⟨rfl, .int z, rfl, .int z, rfl, _, _, rfl, rfl, ⟨by decide, by decide, by decide⟩, _, _, rfl, rfl, .inr ⟨_, rfl, _, _, rfl, rfl, .inr ⟨by split <;> decide, by split <;> decide⟩, _, e3, ?_, samePut s3 nR, ?_⟩⟩
        · rw [List.length_map, List.length_take, List.length_map]; exact small (by omega)
        · rw [upd_same, List.take_add_one, List.getElem?_map, hz]; simp [restI]
      · rintro H3 ⟨s3, e3⟩
        rw [List.length_map, List.take_of_length_le (by rw [List.length_map]; exact Nat.le_refl _)] at e3
        refine ⟨(show (3 : Nat) ≤ sizeLine by decide), fun st nst => q _ st C R ((s0C.trans s3).trans (sameNew nst)) ⟨upd_same, ⟨cells, cells.map restI, upNew nst (s3 _ _ eC), upNew nst e3, by rw [List.length_map], hcl0.1, by omega, ?_⟩, ne_of_none eC nR, ?_, ?_⟩⟩
        · intro x hx
          obtain ⟨c, hc, rfl⟩ := List.mem_map.mp hx
          exact restI_nn (hnn c hc)
        · exact (ne_of_none (s3 _ _ eC) nst).symm
        · exact (ne_of_none e3 nst).symm
def spFar : Sp := fun vs H Q _ => ∃ (st c r : Addr) (t : Nat) (m : Int), vs = [.ref st, .int m] ∧ DS H st c r t ∧ t + 3 ≤ 1000000 ∧ 0 ≤ m ∧ m ≤ 2 ^ 50 ∧
  ∀ (H' : Hp) (d : Int), 0 ≤ d → d ≤ m → DS H' st c r (t + 3) → Ext st r H H' → Q (.int d) H'
set_option maxHeartbeats 2000000 in
theorem ok_far {f fD : Addr} {fd fdD : FuncData} {k : Nat} (F : Fun K "_law_far_amount" "_law_far_amount" sFar f fd)
    (FD : Fun K "_law_draw" "_law_draw" sDraw fD fdD) (bD : Binds K fdD ["_law_state", "_law_below"] []) (gD : mg "_law_draw" = some (.ref fD)) (GD : FnOk P w K mg base CX0 1 fD fdD ["_law_state", "_law_below"] spDraw)
    (mm : mg "min" = none) : FnOk P w K mg base CX0 (1 + k + 1) f fd ["_law_state", "_law_most"] spFar := by
  refine F.ok scFar (fun vs H Q E h => ?_) (fun cdv A outer s H vs Q E hr h => ?_)
  · obtain ⟨st, c, r, t, m, rfl, _⟩ := h; rfl
  · obtain ⟨st, c, r, t, m, rfl, hd, ht, hm, hm2, q⟩ := h
    refine ⟨_, pss_cons (ps_set (i := 2) scFar.nd rfl (.inl rfl) (pe_call GD (hr.mono (by omega)) (by rfl) gD FD.kp bD .nil pass0 (pa_cons (pv 0) (pa_cons (pe_op op_add (pe_callB (call_min2 rfl) (by rfl) mm (by decide +kernel) (pa_cons (pv 1) (pa_cons pe_int pa_nil))) pe_int) pa_nil))))
      (pss_one (ps_ret (pe_ix ix_list (pe_lst (pa_cons (pv 2) (pa_cons (pe_op op_sub (pv 1) (pv 2)) (pa_cons (pe_call GD (hr.mono (by omega)) (by rfl) gD FD.kp bD .nil pass0 (pa_cons (pv 0) (pa_cons (pe_op op_add (pv 1) pe_int) pa_nil))) pa_nil))))
        (pe_call GD (hr.mono (by omega)) (by rfl) gD FD.kp bD .nil pass0 (pa_cons (pv 0) (pa_cons pe_int pa_nil))) (fun _ _ => rfl)))), ?_⟩
    refine ⟨.ref st, rfl, .int m, rfl, _, _, rfl, _, _, rfl, rfl, st, c, r, t, _, rfl, hd, by omega, by split <;> omega, by split <;> omega, fun H1 d1 h1 h1' D1 X1 => ?_⟩
    have hd1 : d1 ≤ m := by split at h1' <;> omega
    refine ⟨.int d1, rfl, .int m, rfl, .int d1, rfl, _, _, rfl, rfl, .ref st, rfl, .int m, rfl, _, _, rfl, rfl, st, c, r, t + 1, _, rfl, D1, by omega, by omega, by omega, fun H2 d2 h2 h2' D2 X2 => ?_⟩
    refine ⟨(show (3 : Nat) ≤ sizeLine by decide), fun L nL => ⟨.ref st, rfl, st, c, r, t + 1 + 1, _, rfl, D2.new nL, by omega, by omega, by omega, fun H3 d3 h3 h3' D3 X3 => ?_⟩⟩
    have off := D2.off nL
    have eL : H3 L = some (.lst [.int d1, .int (m - d1), .int d2]) := X3 L _ upd_same off.1 off.2.2
    have XX : Ext st r H H3 := ((X1.trans X2).trans (Ext.of (sameNew nL))).trans X3
    obtain h | h | h : d3 = 0 ∨ d3 = 1 ∨ d3 = 2 := by omega
    · subst h
      exact ⟨L, _, _, _, rfl, rfl, SqL.of eL, atI_nat (j := 0) rfl, q _ _ h1 hd1 D3 XX⟩
    · subst h
      exact ⟨L, _, _, _, rfl, rfl, SqL.of eL, atI_nat (j := 1) rfl, q _ _ (by omega) (by omega) D3 XX⟩
    · subst h
      exact ⟨L, _, _, _, rfl, rfl, SqL.of eL, atI_nat (j := 2) rfl, q _ _ h2 (by omega) D3 XX⟩
end
end Pv

namespace Pv
open PySem PySem.Spec PyProof.Rows L2
abbrev sAsg : Stmt := topS 15
theorem scAsg : FnScope ["_law_state", "_law_instance_here", "_law_places", "_law_found", "_law_posts", "_law_count", "_law_numbers", "_law_post", "_law_number"] ["_law_state", "_law_instance_here"] (defScope sAsg) := ⟨rfl, rfl, rfl, by decide +kernel, rfl, by decide +kernel, by decide +kernel⟩
structure InsOk (cs : List Int) (gs : List Gp) : Prop where
  c1 : 1 ≤ cs.length
  c6 : cs.length ≤ 6
  cb : ∀ c ∈ cs, 1 ≤ c ∧ c ≤ 10 ^ 12
  g1 : 1 ≤ gs.length
  g10 : gs.length ≤ 10
  gp : ∀ g ∈ gs, g.1.length ≤ 6 ∧ (∀ p ∈ g.1, 0 ≤ p ∧ p < (cs.length : Int)) ∧ 1 ≤ g.2 ∧ g.2 ≤ 10 ^ 12
def Bd (rows : List (List Int)) : Prop := ∀ row ∈ rows, ∀ x ∈ row, 0 ≤ x ∧ x ≤ 10 ^ 12
theorem Shp.snoc {gs : List Gp} {rows : List (List Int)} {i : Nat} {g : Gp} {row : List Int} (h : Shp (gs.take i) rows) (hg : gs[i]? = some g) (hr : row.length = g.1.length + 1) : Shp (gs.take (i + 1)) (rows ++ [row]) := by
  have hil : i < gs.length := (List.getElem?_eq_some_iff.mp hg).1
  have hl : rows.length = i := by rw [h.1, List.length_take]; omega
  rw [take_snoc hg]
  refine ⟨by simp [hl]; omega, ?_⟩
  intro j g' row' h1 h2
  by_cases hj : j < i
  · rw [List.getElem?_append_left (by rw [List.length_take]; omega)] at h1
    rw [List.getElem?_append_left (by omega)] at h2
    exact h.2 j g' row' h1 h2
  · rw [List.getElem?_append_right (by omega)] at h2
    rw [List.getElem?_append_right (by rw [List.length_take]; omega)] at h1
    have e : j - rows.length = 0 := by
      have := (List.getElem?_eq_some_iff.mp h2).1; simp at this; omega
    have e1 : j - (gs.take i).length = 0 := by rw [List.length_take]; omega
    rw [e] at h2; rw [e1] at h1
    simp at h1 h2
    rw [← h1, ← h2]; exact hr
theorem ExtPut {st r p : Addr} {H H1 : Hp} {o : HO} (x : Ext st r H H1) (np : H p = none) : Ext st r H (upd H1 p o) := fun b z e n1 n2 => by rw [upd_ne (ne_of_none e np)]; exact x b z e n1 n2
section
variable {P : Program} {w : World} {K : PySem.W.Frag} {mg : Str → Option Value} {base : Heap}
def spAsg (K : PySem.W.Frag) : Sp := fun vs H Q _ => ∃ (st c r i : Addr) (t : Nat) (cs : List Int) (gs : List Gp), vs = [.ref st, .ref i] ∧ DS H st c r t ∧ t + 200 ≤ 1000000 ∧ Dp K H (.ref i) (dInst cs gs) ∧ InsOk cs gs ∧
  ∀ (H' : Hp) (p : Addr) (t' : Nat) (rows : List (List Int)), DS H' st c r t' → t' ≤ t + 200 → Ext st r H H' → Dp K H' (.ref p) (dAsg rows) → Shp gs rows → Bd rows → Q (.ref p) H'
set_option maxHeartbeats 4000000 in
theorem ok_asg {f fF : Addr} {fd fdF : FuncData} {k : Nat} (F : Fun K "_law_assignment" "_law_assignment" sAsg f fd)
    (FF : Fun K "_law_far_amount" "_law_far_amount" sFar fF fdF) (bF : Binds K fdF ["_law_state", "_law_most"] []) (gF : mg "_law_far_amount" = some (.ref fF)) (GF : FnOk P w K mg base CX0 2 fF fdF ["_law_state", "_law_most"] spFar)
    (mli : mg "list" = none) (mm : mg "min" = none) (mt : mg "tuple" = none) : FnOk P w K mg base CX0 (2 + k + 1) f fd ["_law_state", "_law_instance_here"] (spAsg K) := by
  refine F.ok scAsg (fun vs H Q E h => ?_) (fun cdv A outer s H vs Q E hr h => ?_)
  · obtain ⟨st, c, r, i, t, cs, gs, rfl, _⟩ := h; rfl
  · obtain ⟨st, c, r, i, t, cs, gs, rfl, hd, ht, hI, ok, q⟩ := h
    refine ⟨_, pss_cons (ps_set (i := 2) scAsg.nd rfl (.inl rfl) (pe_callTy call_list_of (by rfl) mli (by decide +kernel) (pa_cons (pe_ix ix_tup (pv 1) pe_int (fun _ _ => rfl)) pa_nil)))
      (pss_cons (ps_set (i := 3) scAsg.nd rfl (.inl rfl) (pe_lst pa_nil))
      (pss_cons (ps_for PassesOwn.never rfl (pi_tup (pe_ix ix_tup (pv 1) pe_int (fun _ _ => rfl))) (pg_tup rfl (pgs_cons (pg_name (i := 4) scAsg.nd rfl (.inl rfl)) (pgs_cons (pg_name (i := 5) scAsg.nd rfl (.inl rfl)) pgs_nil)))
        (pss_cons (ps_set (i := 6) scAsg.nd rfl (.inl rfl) (pe_lst pa_nil))
        (pss_cons (ps_for PassesOwn.never rfl (pi_tup (pv 4)) (pg_name (i := 7) scAsg.nd rfl (.inl rfl))
          (pss_cons (ps_set (i := 8) scAsg.nd rfl (.inl rfl) (pe_call GF (hr.mono (by omega)) (by rfl) gF FF.kp bF .nil pass0 (pa_cons (pv 0) (pa_cons (pe_callB (call_min2 rfl) (by rfl) mm (by decide +kernel) (pa_cons (pe_ix ix_list (pv 2) (pv 7) (fun _ _ => rfl)) (pa_cons (pv 5) pa_nil))) pa_nil))))
          (pss_cons (ps_asg (pe_op op_sub (pe_ix ix_list (pv 2) (pv 7) (fun _ _ => rfl)) (pv 8)) (pg_sub (pv 2) (pv 7) set_list))
          (pss_cons (ps_set (i := 5) scAsg.nd rfl (.inl rfl) (pe_op op_sub (pv 5) (pv 8)))
          (pss_one (ps_expr (pe_bm PySem.F.plainAttrs_list PySem.F.slot_list_append PySem.F.type_list_append mt_append (pv 6) (pa_cons (pv 8) pa_nil))))))))
        (pss_one (ps_expr (pe_bm PySem.F.plainAttrs_list PySem.F.slot_list_append PySem.F.type_list_append mt_append (pv 3) (pa_cons (pe_op op_catA (pe_callTy call_tuple_of (by rfl) mt (by decide +kernel) (pa_cons (pv 6) pa_nil)) (pe_tup (pa_cons (pv 5) pa_nil))) pa_nil))))))
      )
      (pss_one (ps_ret (pe_callTy call_tuple_of (by rfl) mt (by decide +kernel) (pa_cons (pv 3) pa_nil)))))), ?_⟩
    obtain ⟨_, ca, ga, xs, e, hi, hc, hg, hgs⟩ := inst_open hI
    cases e
    have lx := DpAll.len hgs
    rw [List.length_map] at lx
    -- places = list(instance[0]); found = []
    refine ⟨.ref i, rfl, i, _, 0, .ref ca, rfl, rfl, hi, atI_nat (j := 0) rfl, ca, _, rfl, .inr hc, fun Pl nPl => ⟨Nat.zero_le _, fun Fo nFo => ?_⟩⟩
    have oPl := hd.off nPl
    have d1 := (hd.new nPl (o := .lst (cs.map V.int))).new nFo (o := .lst [])
    have oFo := (hd.new nPl (o := .lst (cs.map V.int))).off nFo
    have fFo : H Fo = none := freeOf nFo
    have nPF : Pl ≠ Fo := ne_of_none upd_same nFo
    have s1 : Same H (upd (upd H Pl (.lst (cs.map V.int))) Fo (.lst [])) := (sameNew nPl).trans (sameNew nFo)
    refine ⟨.ref i, rfl, i, _, 1, .ref ga, rfl, rfl, (TupK.of s1).sq hi, atI_nat (j := 1) rfl, ga, rfl, ⟨_, (TupK.of s1).sq hg⟩, for_it (walk_tup (K := K) (a := ga) (xs := xs))
      (fun i' σ H2 => ∃ y4 y5 y6 y7 y8 t' pls vs rows, σ = [some (.ref st), some (.ref i), some (.ref Pl), some (.ref Fo), y4, y5, y6, y7, y8] ∧ DS H2 st c r t' ∧ t' ≤ t + 18 * i' ∧ Ext st r H H2 ∧
        H2 Pl = some (.lst (List.map V.int pls)) ∧ pls.length = cs.length ∧ (∀ x ∈ pls, 0 ≤ x ∧ x ≤ 10 ^ 12) ∧ H2 Fo = some (.lst vs) ∧ DpAll K H2 vs (List.map dI rows) ∧ Shp (gs.take i') rows ∧ Bd rows)
      ⟨none, none, none, none, none, t, cs, [], [], rfl, d1, by omega, Ext.of s1, upNew nFo upd_same, rfl, fun x hx => ⟨by have := (ok.cb x hx).1; omega, (ok.cb x hx).2⟩, upd_same, .nil, ⟨by simp, by intro j g row h; simp at h⟩, fun row h => by simp at h⟩ ?_ ?_ ?_⟩
    · rintro i' σ H2 _ ⟨y4, y5, y6, y7, y8, t', pls, vs, rows, rfl, d2, _, x2, _⟩
      exact (x2.tup hd).sq hg
    · rintro i' v σ H2 H3 hlt ⟨y4, y5, y6, y7, y8, t', pls, vs, rows, rfl, d2, ht2, x2, eP, lP, bP, eF, hvs, hsh, hbd⟩ ⟨rfl, hx⟩
      obtain ⟨d, hdd, hxd⟩ := DpAll.at hgs hx
      rw [List.getElem?_map] at hdd
      obtain ⟨g, hgi, rfl⟩ := Option.map_eq_some_iff.mp hdd
      obtain ⟨gA, pA, rfl, hG, hP⟩ := grp_ref hxd
      have tk2 := x2.tup hd
      obtain ⟨gl6, gpr, gc1, gc2⟩ := ok.gp g (List.mem_of_getElem? hgi)
      have hi10 : i' < 10 := by have := ok.g10; omega
      refine ⟨gA, _, rfl, tk2.sq hG, rfl, _, _, rfl, _, _, rfl, rfl, ?_⟩
      -- numbers = []
      refine ⟨Nat.zero_le _, fun Nu nNu => ?_⟩
      have oNu := d2.off nNu
      have nNP : Pl ≠ Nu := ne_of_none eP nNu
      have nNF : Fo ≠ Nu := ne_of_none eF nNu
      have hNu : H Nu = none := by
        cases e : H Nu with
        | none => rfl
        | some o => rw [x2 _ _ e oNu.1 oNu.2.2] at nNu; cases nNu
      generalize hH4 : upd H3 Nu (.lst []) = H4
      have eN4 : H4 Nu = some (.lst []) := by rw [← hH4]; exact upd_same
      have s4 : Same H3 H4 := by rw [← hH4]; exact sameNew nNu
      have tk4 := tk2.trans (TupK.of s4)
      refine ⟨.ref pA, rfl, pA, rfl, ⟨_, tk4.sq hP⟩, for_it (walk_tup (K := K) (a := pA) (xs := g.1.map V.int))
        (fun j σ H5 => ∃ (y7 y8 : Option V) (cnt : Int) (t5 : Nat) (ps2 nums : List Int), σ = [some (.ref st), some (.ref i), some (.ref Pl), some (.ref Fo), some (.ref pA), some (.int cnt), some (.ref Nu), y7, y8] ∧ DS H5 st c r t5 ∧ t5 ≤ t' + 3 * j ∧
          Ext st r H H5 ∧ TupK H3 H5 ∧ H5 Pl = some (.lst (ps2.map V.int)) ∧ ps2.length = cs.length ∧ (∀ x ∈ ps2, 0 ≤ x ∧ x ≤ 10 ^ 12) ∧ H5 Fo = some (.lst vs) ∧
          H5 Nu = some (.lst (nums.map V.int)) ∧ nums.length = j ∧ (∀ x ∈ nums, 0 ≤ x ∧ x ≤ 10 ^ 12) ∧ 0 ≤ cnt ∧ cnt ≤ 10 ^ 12)
        ⟨y7, y8, g.2, t', pls, [], rfl, d2.same s4, by omega, x2.trans (Ext.of s4), TupK.of s4, s4 _ _ eP, lP, bP, s4 _ _ eF, eN4, rfl, (fun x h => by simp at h), by omega, gc2⟩ ?_ ?_ ?_⟩
      · rintro j σ H5 _ ⟨y7, y8, cnt, t5, ps2, nums, rfl, d5, ht5, x5, tk5, _⟩
        exact (tk2.trans tk5).sq hP
      · rintro j v σ H5 H6 hltj ⟨y7, y8, cnt, t5, ps2, nums, rfl, d5, ht5, x5, tk5, eP5, lP5, bP5, eF5, eN5, lN5, bN5, c0, c1⟩ ⟨rfl, hx2⟩
        rw [List.getElem?_map] at hx2
        obtain ⟨pp, hpp, rfl⟩ := Option.map_eq_some_iff.mp hx2
        have hpr := gpr pp (List.mem_of_getElem? hpp)
        obtain ⟨pn, rfl⟩ : ∃ pn : Nat, pp = pn := ⟨pp.toNat, by omega⟩
        have hpl : pn < ps2.length := by omega
        have hj6 : j < 6 := by have := (List.getElem?_eq_some_iff.mp hpp).1; omega
        have hpv : (ps2.map V.int)[pn]? = some (.int ps2[pn]) := by rw [List.getElem?_map, List.getElem?_eq_getElem hpl]; rfl
        have hpb := bP5 ps2[pn] (List.getElem_mem hpl)
        refine ⟨.ref st, rfl, .ref Pl, rfl, .int pn, rfl, Pl, _, _, .int ps2[pn], rfl, rfl, SqL.of eP5, atI_nat hpv, .int cnt, rfl, _, _, rfl, st, c, r, t5, _, rfl, d5, by omega, by split <;> omega, by split <;> omega, fun H7 d h0 hle D7 X7 => ?_⟩
        have eP7 := X7 _ _ eP5 oPl.1 oPl.2.2
        have eF7 := X7 _ _ eF5 oFo.1 oFo.2.2
        have eN7 := X7 _ _ eN5 oNu.1 oNu.2.2
        have hd1 : d ≤ cnt := by split at hle <;> omega
        have hd2 : d ≤ ps2[pn] := by split at hle <;> omega
        refine ⟨.ref Pl, rfl, .int pn, rfl, Pl, _, _, .int ps2[pn], rfl, rfl, SqL.of eP7, atI_nat hpv, .int d, rfl, _, _, rfl, rfl, .ref Pl, rfl, .int pn, rfl, Pl, _, _, pn, rfl, rfl, eP7, ixN_nat (by rw [List.length_map]; exact hpl), ?_⟩
        refine ⟨.int cnt, rfl, .int d, rfl, _, _, rfl, rfl, ?_⟩
        have eN8 : (upd H7 Pl (.lst ((ps2.map V.int).set pn (.int (ps2[pn] - d))))) Nu = some (.lst (nums.map V.int)) := by rw [upd_ne nNP.symm]; exact eN7
        refine ⟨.ref Nu, rfl, .inl ⟨rfl, _, SqL.of eN8⟩, .int d, rfl, Nu, _, _, rfl, rfl, eN8, ?_, ?_⟩
        · rw [List.length_map]; exact small (by omega)
        refine ⟨_, _, cnt - d, t5 + 3, ps2.set pn (ps2[pn] - d), nums ++ [d], rfl, (D7.put oPl.1 oPl.2.1 oPl.2.2).put oNu.1 oNu.2.1 oNu.2.2, by omega, ExtPut (ExtPut (x5.trans X7) nPl) hNu, ((tk5.trans (X7.tup d5)).trans (TupK.put eP7)).trans (TupK.put eN8), ?_, ?_, ?_, ?_, ?_, ?_, ?_, by omega, by omega⟩
        · rw [upd_ne nNP, upd_same, List.map_set]
        · rw [List.length_set]; exact lP5
        · intro x hx
          rcases List.mem_or_eq_of_mem_set hx with h | h
          · exact bP5 x h
          · rw [h]; omega
        · rw [upd_ne nNF, upd_ne nPF.symm]; exact eF7
        · rw [upd_same, List.map_append]; rfl
        · simp [lN5]
        · intro x hx
          rw [List.mem_append] at hx
          rcases hx with h | h
          · exact bN5 x h
          · simp at h; omega
      · rintro σ H5 ⟨z7, z8, cnt, t5, ps2, nums, rfl, d5, ht5, x5, tk5, eP5, lP5, bP5, eF5, eN5, lN5, bN5, c0, c1⟩
        rw [List.length_map] at ht5 lN5
        have hvl : vs.length = i' := by rw [DpAll.len hvs, List.length_map, hsh.1, List.length_take]; omega
        -- found.append(..)
        have fin : ∀ (H9 : Hp) (p : Addr), Same H5 H9 → SqT K H9 p ((nums ++ [cnt]).map V.int) → rAppend (.ref Fo) [.ref p] H9 (fun _ Hz => ∃ y4 y5 y6 y7 y8 t' pls vs rows, ([some (.ref st), some (.ref i), some (.ref Pl), some (.ref Fo), some (.ref pA), some (.int cnt), some (.ref Nu), z7, z8] : L2.St) = [some (.ref st), some (.ref i), some (.ref Pl), some (.ref Fo), y4, y5, y6, y7, y8] ∧ DS Hz st c r t' ∧ t' ≤ t + 18 * (i' + 1) ∧ Ext st r H Hz ∧
            Hz Pl = some (.lst (List.map V.int pls)) ∧ pls.length = cs.length ∧ (∀ x ∈ pls, 0 ≤ x ∧ x ≤ 10 ^ 12) ∧ Hz Fo = some (.lst vs) ∧ DpAll K Hz vs (List.map dI rows) ∧ Shp (gs.take (i' + 1)) rows ∧ Bd rows) := by
          intro H9 p s9 h9
          have eF9 := s9 _ _ eF5
          have tk9 : TupK H9 (upd H9 Fo (.lst (vs ++ [.ref p]))) := TupK.put eF9
          refine ⟨Fo, vs, .ref p, rfl, rfl, eF9, by rw [hvl]; exact small (by omega), _, _, _, _, _, t5, ps2, vs ++ [.ref p], rows ++ [nums ++ [cnt]], rfl, (d5.same s9).put oFo.1 oFo.2.1 oFo.2.2, by omega, ExtPut (x5.trans (Ext.of s9)) fFo, by rw [upd_ne nPF]; exact s9 _ _ eP5, lP5, bP5, upd_same, ?_, hsh.snoc hgi (by simp [lN5]), ?_⟩
          · rw [List.map_append]
            exact DpAll.snoc (((tk5.trans (TupK.of s9)).trans tk9).dpAll _ _ (to_rows _) hvs) (dI_sq (tk9.sq h9))
          · intro row hrow
            rw [List.mem_append] at hrow
            rcases hrow with h | h
            · exact hbd row h
            · simp at h
              subst h
              intro x hx
              rw [List.mem_append] at hx
              rcases hx with h | h
              · exact bN5 x h
              · simp at h; omega
        refine ⟨.ref Fo, rfl, .inl ⟨rfl, _, SqL.of eF5⟩, .ref Nu, rfl, Nu, _, rfl, .inl ⟨SqL.of eN5, fun p1 n1 => ⟨.int cnt, rfl, (show (1 : Nat) ≤ sizeLine by decide), fun p2 n2 => ⟨p1, p2, _, _, rfl, rfl, SqT.of (upNew n2 upd_same), SqT.of upd_same, ?_, fun z => ?_, (fun _ z => by cases z), fun _ _ p3 n3 => ?_⟩⟩⟩⟩
        · rw [List.length_map, lN5]; have := small (n := g.1.length + 1) (by omega); simp; omega
        · have z2 : nums = [] := List.map_eq_nil_iff.mp z
          refine fin _ p2 ((sameNew n1).trans (sameNew n2)) (SqT.of ?_)
          rw [upd_same, z2]; rfl
        · refine fin _ p3 (((sameNew n1).trans (sameNew n2)).trans (sameNew n3)) (SqT.of ?_)
          rw [upd_same, List.map_append]; rfl
    · rintro σ H2 ⟨y4, y5, y6, y7, y8, t', pls, vs, rows, rfl, d2, ht2, x2, eP, lP, bP, eF, hvs, hsh, hbd⟩
      rw [lx, List.take_length] at hsh
      have := ok.g10
      exact ⟨.ref Fo, rfl, Fo, _, rfl, .inl ⟨SqL.of eF, fun p np => q _ p t' rows (d2.new np) (by omega) (x2.trans (Ext.of (sameNew np))) (.tup (SqT.of upd_same) ((TupK.new np).dpAll _ _ (to_rows _) hvs)) hsh hbd⟩⟩
end
end Pv

namespace Pv
open PySem PySem.Spec PyProof.Rows L2
abbrev sInst : Stmt := topS 13
theorem scInst : FnScope ["_law_state", "_law_posts", "_law_groups", "_law_most", "_law_size", "_law_capacities", "_law_found", "_law_group", "_law_names", "_law_chosen", "_law_post", "_law_turn"] ["_law_state", "_law_posts", "_law_groups", "_law_most"] (defScope sInst) := ⟨rfl, rfl, rfl, by decide +kernel, rfl, by decide +kernel, by decide +kernel⟩
theorem Ext.nil {st c r p : Addr} {t : Nat} {H H1 : Hp} (x : Ext st r H H1) (d : DS H1 st c r t) (np : H1 p = none) : H p = none := by
  have o := d.off np
  cases e : H p with
  | none => rfl
  | some z => rw [x _ _ e o.1 o.2.2] at np; cases np
def upTo (n : Nat) : List Int := (List.range n).map fun (i : Nat) => (i : Int)
theorem rgV_upTo (n : Nat) : rgV 0 (n : Int) = (upTo n).map V.int := by
  unfold rgV upTo
  rw [List.map_map]
  simp
theorem upTo_len (n : Nat) : (upTo n).length = n := by simp [upTo]
theorem upTo_mem {n : Nat} {x : Int} (h : x ∈ upTo n) : 0 ≤ x ∧ x < n := by
  unfold upTo at h
  obtain ⟨i, hi, rfl⟩ := List.mem_map.mp h
  have := List.mem_range.mp hi
  omega
theorem erase_map {α β : Type} (f : α → β) : ∀ (l : List α) (k : Nat), (l.map f).eraseIdx k = (l.eraseIdx k).map f
  | [], _ => rfl
  | _ :: _, 0 => rfl
  | x :: l, k + 1 => by simp [erase_map f l k]
section
variable {P : Program} {w : World} {K : PySem.W.Frag} {mg : Str → Option Value} {base : Heap}
def spInst (K : PySem.W.Frag) : Sp := fun vs H Q _ => ∃ (st c r : Addr) (t : Nat) (m : Int), vs = [.ref st, .int 6, .int 10, .int m] ∧ DS H st c r t ∧ t + 200 ≤ 1000000 ∧ 1 ≤ m ∧ m ≤ 10 ^ 12 ∧
  ∀ (H' : Hp) (p : Addr) (t' : Nat) (cs : List Int) (gs : List Gp), DS H' st c r t' → t' ≤ t + 200 → Ext st r H H' → Dp K H' (.ref p) (dInst cs gs) → InsOk cs gs → Q (.ref p) H'
set_option maxHeartbeats 4000000 in
theorem ok_inst {f fD : Addr} {fd fdD : FuncData} {k : Nat} (F : Fun K "_law_instance" "_law_instance" sInst f fd)
    (FD : Fun K "_law_draw" "_law_draw" sDraw fD fdD) (bD : Binds K fdD ["_law_state", "_law_below"] []) (gD : mg "_law_draw" = some (.ref fD)) (GD : FnOk P w K mg base CX0 1 fD fdD ["_law_state", "_law_below"] spDraw)
    (mt : mg "tuple" = none) (mr : mg "range" = none) (mli : mg "list" = none) (ml : mg "len" = none) : FnOk P w K mg base CX0 (1 + k + 1) f fd ["_law_state", "_law_posts", "_law_groups", "_law_most"] (spInst K) := by
  refine F.ok scInst (fun vs H Q E h => ?_) (fun cdv A outer s H vs Q E hr h => ?_)
  · obtain ⟨st, c, r, t, m, rfl, _⟩ := h; rfl
  · obtain ⟨st, c, r, t, m, rfl, hd, ht, hm, hm2, q⟩ := h
    refine ⟨_, pss_cons (ps_set (i := 4) scInst.nd rfl (.inl rfl) (pe_op op_add pe_int (pe_call GD (hr.mono (by omega)) (by rfl) gD FD.kp bD .nil pass0 (pa_cons (pv 0) (pa_cons (pv 1) pa_nil)))))
      (pss_cons (ps_set (i := 5) scInst.nd rfl (.inl rfl) (pe_callTy call_tuple_of (by rfl) mt (by decide +kernel) (pa_cons
        (pe_lc (own := [("_law_post", 10)]) (g := gName 10) (tt := tYes) rfl scInst.nd (pi_range1 (by rfl) mr (pa_cons (pv 4) pa_nil)) (blkOk_by (N := ["_law_state", "_law_posts", "_law_groups", "_law_most", "_law_size", "_law_capacities", "_law_found", "_law_group", "_law_names", "_law_chosen", "_law_post", "_law_turn"]) (sc := defScope sInst) (by decide +kernel))
          (fun _ _ _ _ _ => pg_name (i := 10) scInst.nd rfl (.inl rfl)) (fun _ _ _ _ _ => pts_nil)
          (fun _ _ _ _ _ => pe_op op_add pe_int (pe_call GD (hr.mono (by omega)) (by rfl) gD FD.kp bD .nil pass0 (pa_cons (pv 0) (pa_cons (pv 3) pa_nil))))) pa_nil)))
      (pss_cons (ps_set (i := 6) scInst.nd rfl (.inl rfl) (pe_lst pa_nil))
      (pss_cons (ps_for PassesOwn.never rfl (pi_range1 (by rfl) mr (pa_cons (pe_op op_add pe_int (pe_call GD (hr.mono (by omega)) (by rfl) gD FD.kp bD .nil pass0 (pa_cons (pv 0) (pa_cons (pv 2) pa_nil)))) pa_nil)) (pg_name (i := 7) scInst.nd rfl (.inl rfl))
        (pss_cons (ps_set (i := 8) scInst.nd rfl (.inr rfl) (pe_listRg rfl (by rfl) mli (prg_1 (by rfl) mr (pv 4))))
        (pss_cons (ps_setLc (i := 9) (own := [("_law_turn", 11)]) (g := gName 11) (tt := tYes) (te := tBM K "list" rPopAt (tVar 8) (tCons (tCall spDraw [] E0 (tCons (tVar 0) (tCons (tCB (rLenQ K) (tCons (tVar 8) tNil)) tNil))) tNil)) rfl scInst.nd rfl rfl (sw_true rfl rfl rfl (by decide +kernel))
          (pi_range1 (by rfl) mr (pa_cons (pe_call GD (hr.mono (by omega)) (by rfl) gD FD.kp bD .nil pass0 (pa_cons (pv 0) (pa_cons (pe_op op_add (pv 4) pe_int) pa_nil))) pa_nil))
          (blkOk_by (N := ["_law_state", "_law_posts", "_law_groups", "_law_most", "_law_size", "_law_capacities", "_law_found", "_law_group", "_law_names", "_law_chosen", "_law_post", "_law_turn"]) (sc := defScope sInst) (by decide +kernel))
          (fun _ _ _ _ _ => pg_name (i := 11) scInst.nd rfl (.inl rfl)) (fun _ _ _ _ _ => pts_nil)
          (fun _ _ _ _ _ => pe_bm PySem.F.plainAttrs_list PySem.F.slot_list_pop PySem.F.type_list_pop mt_popAt (pv 8) (pa_cons (pe_call GD (hr.mono (by omega)) (by rfl) gD FD.kp bD .nil pass0 (pa_cons (pv 0) (pa_cons (pe_callB call_lenQ (by rfl) ml PySem.boot_len (pa_cons (pv 8) pa_nil)) pa_nil))) pa_nil)))
        (pss_one (ps_expr (pe_bm PySem.F.plainAttrs_list PySem.F.slot_list_append PySem.F.type_list_append mt_append (pv 6) (pa_cons (pe_tup (pa_cons (pe_callTy call_tuple_of (by rfl) mt (by decide +kernel) (pa_cons (pv 9) pa_nil))
          (pa_cons (pe_op op_add pe_int (pe_call GD (hr.mono (by omega)) (by rfl) gD FD.kp bD .nil pass0 (pa_cons (pv 0) (pa_cons (pv 3) pa_nil)))) pa_nil))) pa_nil)))))))
      (pss_one (ps_ret (pe_tup (pa_cons (pv 5) (pa_cons (pe_callTy call_tuple_of (by rfl) mt (by decide +kernel) (pa_cons (pv 6) pa_nil)) pa_nil)))))))), ?_⟩
    -- size
    refine ⟨.ref st, rfl, .int 6, rfl, st, c, r, t, _, rfl, hd, by omega, by decide, by decide, fun H1 d1 h10 h11 D1 X1 => ⟨_, _, rfl, rfl, ?_⟩⟩
    obtain ⟨n, hn⟩ : ∃ n : Nat, 1 + d1 = (n : Int) := ⟨(1 + d1).toNat, by omega⟩
    have hn6 : 1 ≤ n ∧ n ≤ 6 := by omega
    dsimp only
    rw [hn]
    -- capacities
    refine ⟨.int n, rfl, n, rfl, by omega, by omega, fun Ca nCa => lc_it (walk_range (lo := 0) (n := (n : Int).toNat))
      (fun j H2 => ∃ (t2 : Nat) (ls : List Int), DS H2 st c r t2 ∧ t2 ≤ t + 1 + j ∧ Ext st r H H2 ∧ H2 Ca = some (.lst (ls.map V.int)) ∧ ls.length = j ∧ ∀ x ∈ ls, 1 ≤ x ∧ x ≤ 10 ^ 12)
      ⟨t + 1, [], D1.new nCa, by omega, X1.trans (Ext.of (sameNew nCa)), upd_same, rfl, fun x h => by simp at h⟩ (fun _ _ _ _ => trivial) ?_ ?_⟩
    · rintro j v H2 H3 hlt ⟨t2, ls, d2, ht2, x2, e2, l2, b2⟩ ⟨rfl, rfl⟩
      have hj6 : j < 6 := by omega
      have oCa := D1.off nCa
      refine ⟨rfl, .ref st, rfl, .int m, rfl, st, c, r, t2, _, rfl, d2, by omega, by omega, by omega, fun H4 d h0 h1 D4 X4 => ⟨_, _, rfl, rfl, _, X4 _ _ e2 oCa.1 oCa.2.2, ?_, t2 + 1, ls ++ [1 + d], D4.put oCa.1 oCa.2.1 oCa.2.2, by omega, ExtPut (x2.trans X4) (X1.nil D1 nCa), ?_, by simp [l2], ?_⟩⟩
      · rw [List.length_map]; exact small (by omega)
      · rw [upd_same, List.map_append]; rfl
      · intro x hx
        rw [List.mem_append] at hx
        rcases hx with h | h
        · exact b2 x h
        · simp at h; omega
    rintro H2 ⟨t2, caps, d2, ht2, x2, e2, l2, b2⟩
    have l2' : caps.length = n := by omega
    refine ⟨Ca, _, rfl, .inl ⟨SqL.of e2, fun Cp nCp => ?_⟩⟩
    -- found = []
    refine ⟨Nat.zero_le _, fun Fo nFo => ?_⟩
    generalize hHc : upd (upd H2 Cp (.tup (caps.map V.int))) Fo (.lst []) = Hc
    have dc : DS Hc st c r t2 := by rw [← hHc]; exact (d2.new nCp).new nFo
    have xc : Ext st r H Hc := by rw [← hHc]; exact (x2.trans (Ext.of (sameNew nCp))).trans (Ext.of (sameNew nFo))
    have sC : SqT K Hc Cp (caps.map V.int) := by rw [← hHc]; exact SqT.of (upNew nFo upd_same)
    have eFo : Hc Fo = some (.lst []) := by rw [← hHc]; exact upd_same
    have oFo := (d2.new nCp (o := .tup (caps.map V.int))).off nFo
    have fFo : H Fo = none := (x2.trans (Ext.of (sameNew nCp (o := .tup (caps.map V.int))))).nil (d2.new nCp) nFo
    -- the groups
    refine ⟨.ref st, rfl, .int 10, rfl, st, c, r, t2, _, rfl, dc, by omega, by decide, by decide, fun H3 d3 h30 h31 D3 X3 => ⟨_, _, rfl, rfl, ?_⟩⟩
    obtain ⟨gn, hgn⟩ : ∃ gn : Nat, 1 + d3 = (gn : Int) := ⟨(1 + d3).toNat, by omega⟩
    have hgn10 : 1 ≤ gn ∧ gn ≤ 10 := by omega
    refine ⟨1 + d3, rfl, by omega, by omega, for_it (walk_range (lo := 0) (n := (1 + d3).toNat))
      (fun i σ H4 => ∃ (y7 y8 y9 : Option V) (t4 : Nat) (vs : List V) (gs : List Gp), σ = [some (.ref st), some (.int 6), some (.int 10), some (.int m), some (.int n), some (.ref Cp), some (.ref Fo), y7, y8, y9, none, none] ∧ DS H4 st c r t4 ∧ t4 ≤ t2 + 1 + 10 * i ∧ Ext st r H H4 ∧ TupK Hc H4 ∧
        H4 Fo = some (.lst vs) ∧ DpAll K H4 vs (gs.map dGrp) ∧ gs.length = i ∧ ∀ g ∈ gs, g.1.length ≤ 6 ∧ (∀ p ∈ g.1, 0 ≤ p ∧ p < (n : Int)) ∧ 1 ≤ g.2 ∧ g.2 ≤ 10 ^ 12)
      ⟨none, none, none, t2 + 1, [], [], rfl, D3, by omega, xc.trans X3, X3.tup dc, X3 _ _ eFo oFo.1 oFo.2.2, .nil, rfl, fun g h => by simp at h⟩ (fun _ _ _ _ _ => trivial) ?_ ?_⟩
    · rintro i v σ H4 H5 hlt ⟨y7, y8, y9, t4, vs, gs, rfl, d4, ht4, x4, tk4, eF4, hvs, lgs, bgs⟩ ⟨rfl, rfl⟩
      have hi10 : i < 10 := by omega
      -- names = list(range(size))
      refine ⟨.int n, rfl, n, rfl, RgOk.of_le (by omega) (by omega) (by omega) (by omega), fun Nm nNm => ?_⟩
      have oNm := d4.off nNm
      have fNm := x4.nil d4 nNm
      have nFN : Fo ≠ Nm := ne_of_none eF4 nNm
      have d5 := d4.new nNm (o := .lst (rgV 0 n))
      -- chosen
      refine ⟨.ref st, rfl, .int n, rfl, _, _, rfl, rfl, st, c, r, t4, _, rfl, d5, by omega, by omega, by omega, fun H6 d6 h60 h61 D6 X6 => ?_⟩
      have eF6 := X6 _ _ (upNew nNm eF4) oFo.1 oFo.2.2
      have eN6 := X6 Nm _ upd_same oNm.1 oNm.2.2
      rw [rgV_upTo] at eN6
      have x6 := (x4.trans (Ext.of (sameNew nNm))).trans X6
      have tk6 := (tk4.trans (TupK.new nNm)).trans (X6.tup d5)
      have tk6a := (TupK.new nNm (o := .lst (rgV 0 n))).trans (X6.tup d5)
      refine ⟨d6, rfl, by omega, by omega, fun Ch nCh => lc_it (walk_range (lo := 0) (n := d6.toNat))
        (fun j H7 => ∃ (t7 : Nat) (ns ls : List Int), DS H7 st c r t7 ∧ t7 ≤ t4 + 1 + j ∧ Ext st r H H7 ∧ TupK H6 H7 ∧ H7 Fo = some (.lst vs) ∧ H7 Nm = some (.lst (ns.map V.int)) ∧ ns.length + j = n ∧ (∀ x ∈ ns, 0 ≤ x ∧ x < (n : Int)) ∧
          H7 Ch = some (.lst (ls.map V.int)) ∧ ls.length = j ∧ ∀ x ∈ ls, 0 ≤ x ∧ x < (n : Int))
        ⟨t4 + 1, upTo n, [], D6.new nCh, by omega, x6.trans (Ext.of (sameNew nCh)), TupK.new nCh, upNew nCh eF6, upNew nCh eN6, upTo_len n, fun x h => upTo_mem h, upd_same, rfl, fun x h => by simp at h⟩ (fun _ _ _ _ => trivial) ?_ ?_⟩
      · rintro j v H7 H8 hltj ⟨t7, ns, ls, d7, ht7, x7, tk7, eF7, eN7, lN7, bN7, eC7, lC7, bC7⟩ ⟨rfl, rfl⟩
        have hjn : j < n := by omega
        have oCh := D6.off nCh
        have nNC : Nm ≠ Ch := ne_of_none eN6 nCh
        have nFC : Fo ≠ Ch := ne_of_none eF6 nCh
        refine ⟨rfl, .ref Nm, rfl, .inl ⟨rfl, _, SqL.of eN7⟩, .ref st, rfl, .ref Nm, rfl, Nm, _, rfl, .inl (SqL.of eN7), st, c, r, t7, _, rfl, d7, by omega, by rw [List.length_map]; omega, by rw [List.length_map]; omega, fun H9 d9 h90 h91 D9 X9 => ?_⟩
        rw [List.length_map] at h91
        have eN9 := X9 _ _ eN7 oNm.1 oNm.2.2
        have eC9 := X9 _ _ eC7 oCh.1 oCh.2.2
        have eF9 := X9 _ _ eF7 oFo.1 oFo.2.2
        have hk : d9.toNat < ns.length := by omega
        have eCz : (upd H9 Nm (.lst ((ns.map V.int).eraseIdx d9.toNat))) Ch = some (.lst (ls.map V.int)) := by rw [upd_ne nNC.symm]; exact eC9
        refine ⟨Nm, _, d9, d9.toNat, .int ns[d9.toNat], rfl, rfl, eN9, by omega, by omega, seqIndex_of h90 (by rw [List.length_map]; omega), by rw [List.getElem?_map, List.getElem?_eq_getElem hk]; rfl, _, eCz, by rw [List.length_map]; exact small (by omega),
          t7 + 1, ns.eraseIdx d9.toNat, ls ++ [ns[d9.toNat]], (D9.put oNm.1 oNm.2.1 oNm.2.2).put oCh.1 oCh.2.1 oCh.2.2, by omega, ExtPut (ExtPut (x7.trans X9) fNm) (x6.nil D6 nCh), ((tk7.trans (X9.tup d7)).trans (TupK.put eN9)).trans (TupK.put eCz), ?_, ?_, ?_, ?_, ?_, by simp [lC7], ?_⟩
        · rw [upd_ne nFC, upd_ne nFN]; exact eF9
        · rw [upd_ne nNC, upd_same, erase_map]
        · rw [List.length_eraseIdx_of_lt hk]; omega
        · exact fun x hx => bN7 x (List.mem_of_mem_eraseIdx hx)
        · rw [upd_same, List.map_append]; rfl
        · intro x hx
          rw [List.mem_append] at hx
          rcases hx with h | h
          · exact bC7 x h
          · simp at h; subst h; exact bN7 _ (List.getElem_mem hk)
      · rintro H7 ⟨t7, ns, ls, d7, ht7, x7, tk7, eF7, eN7, lN7, bN7, eC7, lC7, bC7⟩
        -- found.append(..)
        refine ⟨.ref Fo, rfl, .inl ⟨rfl, _, SqL.of eF7⟩, .ref Ch, rfl, Ch, _, rfl, .inl ⟨SqL.of eC7, fun Tp nTp => ?_⟩⟩
        refine ⟨.ref st, rfl, .int m, rfl, st, c, r, t7, _, rfl, d7.new nTp, by omega, by omega, by omega, fun H8 d8 h80 h81 D8 X8 => ⟨_, _, rfl, rfl, (show (2 : Nat) ≤ sizeLine by decide), fun Gr nGr => ?_⟩⟩
        have eF8p := X8 _ _ (upNew nTp eF7) oFo.1 oFo.2.2
        have eF8 := upNew nGr (o := .tup [.ref Tp, .int (1 + d8)]) eF8p
        have tk8 := (TupK.new nTp).trans (X8.tup (d7.new nTp (o := .tup (ls.map V.int))))
        have sT : SqT K H8 Tp (ls.map V.int) := (X8.tup (d7.new nTp)).sq (SqT.of upd_same)
        have hvl : vs.length = i := by rw [DpAll.len hvs, List.length_map, lgs]
        have tkz : TupK H8 (upd (upd H8 Gr (.tup [.ref Tp, .int (1 + d8)])) Fo (.lst (vs ++ [.ref Gr]))) := (TupK.new nGr).trans (TupK.put eF8)
        refine ⟨Fo, vs, _, rfl, rfl, eF8, by rw [hvl]; exact small (by omega), _, _, _, t7 + 1, vs ++ [.ref Gr], gs ++ [(ls, 1 + d8)], rfl, (D8.new nGr).put oFo.1 oFo.2.1 oFo.2.2, by omega, ExtPut ((((x7.trans (Ext.of (sameNew nTp))).trans X8)).trans (Ext.of (sameNew nGr))) fFo, ((tk6.trans tk7).trans tk8).trans tkz, upd_same, ?_, by simp [lgs], ?_⟩
        · rw [List.map_append]
          refine DpAll.snoc ((((tk6a.trans tk7).trans tk8).trans tkz).dpAll _ _ (to_grps _) hvs) (.tup (SqT.of ?_) (.cons (dI_sq (tkz.sq sT)) (.cons (.int _) .nil)))
          rw [upd_ne (ne_of_none eF8p nGr).symm]
          exact upd_same
        · intro g hg
          rw [List.mem_append] at hg
          rcases hg with h | h
          · exact bgs g h
          · simp at h
            subst h
            exact ⟨by show ls.length ≤ 6; omega, bC7, by show 1 ≤ 1 + d8; omega, by show 1 + d8 ≤ 10 ^ 12; omega⟩
    · rintro σ H4 ⟨y7, y8, y9, t4, vs, gs, rfl, d4, ht4, x4, tk4, eF4, hvs, lgs, bgs⟩
      refine ⟨.ref Cp, rfl, .ref Fo, rfl, Fo, _, rfl, .inl ⟨SqL.of eF4, fun Gt nGt => ⟨(show (2 : Nat) ≤ sizeLine by decide), fun In nIn => ?_⟩⟩⟩
      have tkz : TupK H4 (upd (upd H4 Gt (.tup vs)) In (.tup [.ref Cp, .ref Gt])) := (TupK.new nGt).trans (TupK.new nIn)
      refine q _ In t4 caps gs ((d4.new nGt).new nIn) (by omega) ((x4.trans (Ext.of (sameNew nGt))).trans (Ext.of (sameNew nIn))) (.tup (SqT.of upd_same) (.cons (dI_sq ((tk4.trans tkz).sq sC)) (.cons (.tup (SqT.of (upNew nIn upd_same)) (tkz.dpAll _ _ (to_grps _) hvs)) .nil))) ⟨by omega, by omega, b2, by omega, by omega, ?_⟩
      rw [l2']
      exact bgs
end
end Pv

namespace Pv
open PySem PySem.Spec PyProof.Rows L2
/-! bounds of loads -/
def bnd (B : Int) (ls : List Int) : Prop := ∀ x ∈ ls, 0 ≤ x ∧ x ≤ B
theorem bnd_add {B M : Int} {ls : List Int} {p x : Int} (h : bnd B ls) (hB : 0 ≤ B) (h0 : 0 ≤ x) (h1 : x ≤ M) : bnd (B + M) (addAt ls p x) := by
  intro y hy
  rcases List.mem_or_eq_of_mem_set hy with hm | hm
  · have := h y hm; omega
  · have : 0 ≤ ls.getD p.toNat 0 ∧ ls.getD p.toNat 0 ≤ B := by
      rw [List.getD_eq_getElem?_getD]
      cases e : ls[p.toNat]? with
      | none => simp; exact hB
      | some z => simp; exact h z (List.mem_of_getElem? e)
    omega
theorem bnd_row {M : Int} (hM : 0 ≤ M) : ∀ (z : List (Int × Int)) (B : Int) (ls : List Int), 0 ≤ B → bnd B ls → (∀ q ∈ z, 0 ≤ q.2 ∧ q.2 ≤ M) → bnd (B + M * z.length) (z.foldl (fun l q => addAt l q.1 q.2) ls)
  | [], B, ls, hB, h, _ => by simpa using h
  | q :: z, B, ls, hB, h, hz => by
    have := bnd_row hM z (B + M) (addAt ls q.1 q.2) (by omega) (bnd_add h hB (hz q (by simp)).1 (hz q (by simp)).2) (fun y hy => hz y (by simp [hy]))
    rw [List.foldl_cons]
    intro y hy
    have h2 := this y hy
    have e : M * ((q :: z).length : Int) = M * (z.length : Int) + M := by rw [List.length_cons]; push_cast; rw [Int.mul_add, Int.mul_one]
    omega
theorem bnd_mono {B B' : Int} {ls : List Int} (h : bnd B ls) (hb : B ≤ B') : bnd B' ls := fun x hx => ⟨(h x hx).1, Int.le_trans (h x hx).2 hb⟩
theorem bnd_all {M : Int} (hM : 0 ≤ M) : ∀ (z : List (Gp × List Int)) (B : Int) (ls : List Int), 0 ≤ B → bnd B ls → (∀ q ∈ z, q.1.1.length ≤ 6 ∧ ∀ x ∈ q.2, 0 ≤ x ∧ x ≤ M) → bnd (B + 6 * M * z.length) (z.foldl (fun l q => rowLoads l q.1.1 q.2) ls)
  | [], B, ls, hB, h, _ => by simpa using h
  | q :: z, B, ls, hB, h, hz => by
    have hq := hz q (by simp)
    have hl : ((q.1.1.zip q.2).length : Int) ≤ 6 := by rw [List.length_zip]; omega
    have hr : bnd (B + 6 * M) (rowLoads ls q.1.1 q.2) := by
      refine bnd_mono (bnd_row hM (q.1.1.zip q.2) B ls hB h ?_) ?_
      · intro y hy
        exact hq.2 y.2 (List.of_mem_zip hy).2
      · have := Int.mul_le_mul_of_nonneg_left hl hM
        omega
    have := bnd_all hM z (B + 6 * M) _ (by omega) hr (fun y hy => hz y (by simp [hy]))
    rw [List.foldl_cons]
    intro y hy
    have h2 := this y hy
    have e : 6 * M * ((q :: z).length : Int) = 6 * M * (z.length : Int) + 6 * M := by rw [List.length_cons]; push_cast; rw [Int.mul_add, Int.mul_one]
    omega
theorem bnd_loads {cs : List Int} {gs : List Gp} {rows : List (List Int)} (ok : InsOk cs gs) (bd : Bd rows) : ∀ x ∈ loadsOf cs.length gs rows, x.natAbs < 10 ^ 20 := by
  have hz : bnd 0 (zeros cs.length) := by
    intro x hx
    unfold zeros at hx
    rw [List.eq_of_mem_replicate hx]; omega
  have hl : ((gs.zip rows).length : Int) ≤ 10 := by rw [List.length_zip]; have := ok.g10; omega
  have := bnd_all (M := 10 ^ 12) (by decide) (gs.zip rows) 0 (zeros cs.length) (by omega) hz ?_
  · intro x hx
    have h2 := this x hx
    have h3 := Int.mul_le_mul_of_nonneg_left hl (show (0 : Int) ≤ 6 * 10 ^ 12 by decide)
    omega
  · intro q hq
    have hm := List.of_mem_zip hq
    exact ⟨(ok.gp q.1 hm.1).1, bd q.2 hm.2⟩
theorem lastI_mem {row : List Int} (h : row ≠ []) : lastI row ∈ row := by
  unfold lastI
  rw [List.getLastD_eq_getLast?, List.getLast?_eq_some_getLast h]
  exact List.getLast_mem h
theorem sum_bnd {M : Int} (hM : 0 ≤ M) : ∀ l : List Int, (∀ x ∈ l, 0 ≤ x ∧ x ≤ M) → 0 ≤ l.sum ∧ l.sum ≤ M * l.length
  | [], _ => by simp
  | x :: l, h => by
    have := sum_bnd hM l (fun y hy => h y (by simp [hy]))
    have hx := h x (by simp)
    rw [List.sum_cons]
    have e : M * ((x :: l).length : Int) = M * (l.length : Int) + M := by rw [List.length_cons]; push_cast; rw [Int.mul_add, Int.mul_one]
    omega
theorem bnd_un {cs : List Int} {gs : List Gp} {rows : List (List Int)} (ok : InsOk cs gs) (sh : Shp gs rows) (bd : Bd rows) (ne : ∀ row ∈ rows, row ≠ []) : (rows.map lastI).sum.natAbs < 10 ^ 20 := by
  have h := sum_bnd (M := 10 ^ 12) (by decide) (rows.map lastI) (by
    intro x hx
    obtain ⟨row, hr, rfl⟩ := List.mem_map.mp hx
    exact bd row hr _ (lastI_mem (ne row hr)))
  have hl : ((rows.map lastI).length : Int) ≤ 10 := by rw [List.length_map, sh.1]; have := ok.g10; omega
  have h3 := Int.mul_le_mul_of_nonneg_left hl (show (0 : Int) ≤ 10 ^ 12 by decide)
  omega
theorem Shp.ne {gs : List Gp} {rows : List (List Int)} (sh : Shp gs rows) : ∀ row ∈ rows, row ≠ [] := by
  intro row hr e
  obtain ⟨i, hi⟩ := List.getElem?_of_mem hr
  have hil : i < gs.length := by have := (List.getElem?_eq_some_iff.mp hi).1; rw [sh.1] at this; exact this
  have := sh.2 i gs[i] row (List.getElem?_eq_getElem hil) hi
  rw [e] at this
  simp at this
def dTold (ls : List Int) (u : Int) : PyData := .list [dI ls, .int u]
theorem fine_told {ls : List Int} {u : Int} (h : ∀ x ∈ ls, x.natAbs < 10 ^ 20) (hl : ls.length ≤ 6) (hu : u.natAbs < 10 ^ 20) : Fine 2 1000 (dTold ls u) := by
  have h1 := fine_dI h hl
  have h2 := fine_int hu
  refine (fine_lst (k := 1) (B := 200) (n := 2) (xs := [dI ls, .int u]) ?_ (by simp)).mono (by omega) (by omega)
  intro x hx
  simp at hx
  rcases hx with rfl | rfl
  · exact h1.mono (by omega) (by omega)
  · exact h2.mono (by omega) (by omega)
theorem fine_grp {cs : List Int} {gs : List Gp} (ok : InsOk cs gs) {g : Gp} (hg : g ∈ gs) : Fine 2 500 (dGrp g) := by
  obtain ⟨h1, h2, h3, h4⟩ := ok.gp g hg
  refine (fine_tup (k := 1) (B := 200) (n := 2) (xs := [dI g.1, .int g.2]) ?_ (by simp)).mono (by omega) (by omega)
  intro x hx
  simp at hx
  rcases hx with rfl | rfl
  · exact (fine_dI (n := 6) (fun p hp => by have := h2 p hp; have := ok.c6; omega) h1).mono (by omega) (by omega)
  · exact (fine_int (by omega)).mono (by omega) (by omega)
theorem fine_inst {cs : List Int} {gs : List Gp} (ok : InsOk cs gs) : Fine 4 20000 (dInst cs gs) := by
  refine (fine_tup (k := 3) (B := 8000) (n := 2) (xs := [dI cs, .tuple (gs.map dGrp)]) ?_ (by simp)).mono (by omega) (by omega)
  intro x hx
  simp at hx
  rcases hx with rfl | rfl
  · exact (fine_dI (n := 6) (fun p hp => by have := ok.cb p hp; omega) ok.c6).mono (by omega) (by omega)
  · refine (fine_tup (k := 2) (B := 500) (n := 10) ?_ (by rw [List.length_map]; exact ok.g10)).mono (by omega) (by omega)
    intro d hd
    obtain ⟨g, hg, rfl⟩ := List.mem_map.mp hd
    exact fine_grp ok hg
theorem fine_asg {cs : List Int} {gs : List Gp} {rows : List (List Int)} (ok : InsOk cs gs) (sh : Shp gs rows) (bd : Bd rows) : Fine 2 5000 (dAsg rows) := by
  refine (fine_tup (k := 1) (B := 300) (n := 10) ?_ (by rw [List.length_map, sh.1]; exact ok.g10)).mono (by omega) (by omega)
  intro d hd
  obtain ⟨row, hr, rfl⟩ := List.mem_map.mp hd
  obtain ⟨i, hi⟩ := List.getElem?_of_mem hr
  have hil : i < gs.length := by have := (List.getElem?_eq_some_iff.mp hi).1; rw [sh.1] at this; exact this
  have hl := sh.2 i gs[i] row (List.getElem?_eq_getElem hil) hi
  have h6 := (ok.gp gs[i] (List.getElem_mem hil)).1
  exact (fine_dI (n := 7) (fun x hx => by have := bd row hr x hx; omega) (by omega)).mono (by omega) (by omega)

abbrev sTold : Stmt := topS 20
abbrev sDue : Stmt := topS 21
theorem scTold : FnScope ["_law_instance_here", "_law_assignment_here"] ["_law_instance_here", "_law_assignment_here"] (defScope sTold) := ⟨rfl, rfl, rfl, by decide +kernel, rfl, by decide +kernel, by decide +kernel⟩
theorem scDue : FnScope ["_law_instance_here", "_law_assignment_here", "_law_without", "_law_numbers"] ["_law_instance_here", "_law_assignment_here"] (defScope sDue) := ⟨rfl, rfl, rfl, by decide +kernel, rfl, by decide +kernel, by decide +kernel⟩
section
variable {P : Program} {w : World} {K : PySem.W.Frag} {mg : Str → Option Value} {base : Heap}
theorem hu70 {k : Nat} {A : Around} (hr : Room k A) : A.units + 70 < cLine := by have := hr.un; omega
theorem InsOk.inR {cs : List Int} {gs : List Gp} (ok : InsOk cs gs) : InR cs.length gs := fun g hg => ⟨by have := (ok.gp g hg).1; omega, (ok.gp g hg).2.1⟩
def spTold (K : PySem.W.Frag) : Sp := fun vs H Q _ => ∃ (i a : Addr) (cs : List Int) (gs : List Gp) (rows : List (List Int)), vs = [.ref i, .ref a] ∧ Dp K H (.ref i) (dInst cs gs) ∧ Dp K H (.ref a) (dAsg rows) ∧
  InsOk cs gs ∧ Shp gs rows ∧ Bd rows ∧ ∀ H', Same H H' → Q (.str (dTold (loadsOf cs.length gs rows) (rows.map lastI).sum).shown) H'
theorem ok_told {f fL fU : Addr} {fd fdL fdU : FuncData} {k : Nat} (F : Fun K "_law_told" "_law_told" sTold f fd)
    (FL : Fun K "post_loads" "post_loads" sLoads fL fdL) (bL : Binds K fdL ["instance", "assignment"] []) (gL : mg "post_loads" = some (.ref fL)) (GL : FnOk P w K mg base CX0 1 fL fdL ["instance", "assignment"] (spLoads K))
    (FU : Fun K "unassigned_count" "unassigned_count" sUn fU fdU) (bU : Binds K fdU ["instance", "assignment"] []) (gU : mg "unassigned_count" = some (.ref fU)) (GU : FnOk P w K mg base CX0 1 fU fdU ["instance", "assignment"] (spUn K))
    (mrp : mg "repr" = none) : FnG P w K mg base (1 + k + 1) f fd ["_law_instance_here", "_law_assignment_here"] (spTold K) := by
  refine okG F scTold (fun vs H Q E h => ?_) (fun cdv A outer s H vs Q E hgd hr h => ?_)
  · obtain ⟨i, a, cs, gs, rows, rfl, _⟩ := h; rfl
  · obtain ⟨i, a, cs, gs, rows, rfl, hI, hA, ok, sh, bd, q⟩ := h
    refine ⟨_, pss_one (ps_ret (pe_callB (call_reprD hgd (hu70 hr)) (by rfl) mrp (by decide +kernel) (pa_cons (pe_lst (pa_cons (pe_call GL (hr.mono (by omega)) (by rfl) gL FL.kp bL .nil pass0 (pa_cons (pv 0) (pa_cons (pv 1) pa_nil)))
      (pa_cons (pe_call GU (hr.mono (by omega)) (by rfl) gU FU.kp bU .nil pass0 (pa_cons (pv 0) (pa_cons (pv 1) pa_nil))) pa_nil))) pa_nil))), ?_⟩
    have h6 := ok.c6
    have h10 := ok.g10
    refine ⟨.ref i, rfl, .ref a, rfl, i, a, cs, gs, rows, rfl, hI, hA, by omega, ok.inR, fun H1 p s1 hp => ?_⟩
    refine ⟨.ref i, rfl, .ref a, rfl, i, a, rows, rfl, (TupK.of s1).dp _ _ (to_dAsg _) hA, by rw [sh.1]; omega, sh.ne, fun H2 s2 => ⟨(show (2 : Nat) ≤ sizeLine by decide), fun L nL => ?_⟩⟩
    have fn := fine_told (bnd_loads ok bd) (by rw [loadsOf, loadsFrom_len]; simpa [zeros] using h6) (bnd_un ok sh bd sh.ne)
    refine ⟨L, _, rfl, .lst (SqL.of upd_same) (.cons ((TupK.of (s2.trans (sameNew nL))).dp _ _ (to_dI _) hp) (.cons (.int _) .nil)), fn.sh, fn.nd, Nat.le_trans fn.dp (by decide), Nat.le_trans fn.ln (by decide), q _ ((s1.trans s2).trans (sameNew nL))⟩
theorem ok_due {f fL : Addr} {fd fdL : FuncData} {k : Nat} (F : Fun K "_law_due" "_law_due" sDue f fd)
    (FL : Fun K "_law_loads" "_law_loads" sLLoads fL fdL) (bL : Binds K fdL ["_law_instance_here", "_law_assignment_here"] []) (gL : mg "_law_loads" = some (.ref fL)) (GL : FnOk P w K mg base CX0 1 fL fdL ["_law_instance_here", "_law_assignment_here"] (spLLoads K))
    (mrp : mg "repr" = none) (ms : mg "sum" = none) (mt : mg "tuple" = none) (ml : mg "len" = none) : FnG P w K mg base (1 + k + 1) f fd ["_law_instance_here", "_law_assignment_here"] (spTold K) := by
  refine okG F scDue (fun vs H Q E h => ?_) (fun cdv A outer s H vs Q E hgd hr h => ?_)
  · obtain ⟨i, a, cs, gs, rows, rfl, _⟩ := h; rfl
  · obtain ⟨i, a, cs, gs, rows, rfl, hI, hA, ok, sh, bd, q⟩ := h
    refine ⟨_, pss_cons (ps_set (i := 2) scDue.nd rfl (.inl rfl) (pe_callB (cr_sum rfl) (by rfl) ms (by decide +kernel) (pa_cons
        (pe_lc (own := [("_law_numbers", 3)]) (g := gName 3) (tt := tYes) (te := tOp (rIxT K) (tVar 3) (tOp (rI0 fun i j => .int (i - j)) (tCB (rLenQ K) (tCons (tVar 3) tNil)) (tC (.int 1)))) rfl scDue.nd (pi_tup (pv 1)) (blkOk_by (N := ["_law_instance_here", "_law_assignment_here", "_law_without", "_law_numbers"]) (sc := defScope sDue) (by decide +kernel))
          (fun _ _ _ _ _ => pg_name (i := 3) scDue.nd rfl (.inl rfl)) (fun _ _ _ _ _ => pts_nil)
          (fun _ _ _ _ _ => pe_ix ix_tup (pv 3) (pe_op op_sub (pe_callB call_lenQ (by rfl) ml PySem.boot_len (pa_cons (pv 3) pa_nil)) pe_int) (fun _ _ => rfl))) pa_nil)))
      (pss_one (ps_ret (pe_callB (call_reprD hgd (hu70 hr)) (by rfl) mrp (by decide +kernel) (pa_cons (pe_lst (pa_cons (pe_callTy call_tuple_of (by rfl) mt (by decide +kernel) (pa_cons (pe_call GL (hr.mono (by omega)) (by rfl) gL FL.kp bL .nil pass0 (pa_cons (pv 0) (pa_cons (pv 1) pa_nil))) pa_nil))
        (pa_cons (pv 2) pa_nil))) pa_nil)))), ?_⟩
    have h6 := ok.c6
    have h10 := ok.g10
    obtain ⟨_, ys, e, ha, hrows⟩ := asg_open hA
    cases e
    refine ⟨.ref a, rfl, a, rfl, ⟨_, ha⟩, fun D nD => lc_tup (xs := ys)
      (fun i H2 => Same H H2 ∧ H2 D = some (.lst (((rows.take i).map lastI).map V.int))) ⟨sameNew nD, upd_same⟩ (fun i H2 _ h2 => (TupK.of h2.1).sq ha) ?_ ?_⟩
    · rintro j x H2 hx ⟨s2, e2⟩
      obtain ⟨d, hd, hxd⟩ := DpAll.at hrows hx
      rw [List.getElem?_map] at hd
      obtain ⟨row, hri, rfl⟩ := Option.map_eq_some_iff.mp hd
      obtain ⟨rA, rfl, hR⟩ := dI_ref hxd
      have hne := sh.ne row (List.mem_of_getElem? hri)
      have hjl : j < rows.length := (List.getElem?_eq_some_iff.mp hri).1
      have hgl : row.getLast? = some (lastI row) := by
        unfold lastI
        rw [List.getLastD_eq_getLast?, List.getLast?_eq_some_getLast hne]
        rfl
      have hlast : atI (row.map V.int) ((((row.map V.int).length : Nat) : Int) - 1) = some (.int (lastI row)) := by
        have hp : 0 < row.length := List.length_pos_iff.mpr hne
        have e : ((((row.map V.int).length : Nat) : Int) - 1) = ((row.length - 1 : Nat) : Int) := by rw [List.length_map]; omega
        rw [e]
        refine atI_nat ?_
        rw [List.getElem?_map, ← List.getLast?_eq_getElem?, hgl]
        rfl
      refine ⟨rfl, .ref rA, rfl, .ref rA, rfl, rA, _, rfl, .inr ((TupK.of s2).sq hR), _, _, rfl, rfl, rA, _, _, _, rfl, rfl, (TupK.of s2).sq hR, hlast, _, e2, ?_, samePut s2 nD, ?_⟩
      · rw [List.length_map, List.length_map, List.length_take]; exact small (by rw [sh.1]; omega)
      · rw [upd_same, List.take_add_one, hri]; simp
    · rintro H2 ⟨s2, e2⟩
      rw [DpAll.len hrows, List.length_map, List.take_length] at e2
      refine ⟨D, _, rfl, SqL.of e2, ?_⟩
      have tk2 := TupK.of s2
      refine ⟨.ref i, rfl, .ref a, rfl, i, a, cs, gs, rows, rfl, tk2.dp _ _ (to_dInst _ _) hI, tk2.dp _ _ (to_dAsg _) hA, by omega, ok.inR, fun H3 p s3 hp => ⟨p, _, rfl, .inl ⟨SqL.of hp, fun Tp nTp => ?_⟩⟩⟩
      refine ⟨_, rfl, (show (2 : Nat) ≤ sizeLine by decide), fun L nL => ?_⟩
      have fn := fine_told (bnd_loads ok bd) (by rw [loadsOf, loadsFrom_len]; simpa [zeros] using h6) (bnd_un ok sh bd sh.ne)
      exact ⟨L, _, rfl, .lst (SqL.of upd_same) (.cons (dI_sq (SqT.of (upNew nL upd_same))) (.cons (.int _) .nil)), fn.sh, fn.nd, Nat.le_trans fn.dp (by decide), Nat.le_trans fn.ln (by decide), q _ (((s2.trans s3).trans (sameNew nTp)).trans (sameNew nL))⟩
end
end Pv

namespace Pv
open PySem PySem.Spec PyProof.Rows L2
theorem addAt_zero (ls : List Int) (p : Int) : addAt ls p 0 = ls := by
  unfold addAt
  by_cases h : p.toNat < ls.length
  · rw [List.getD_eq_getElem?_getD, List.getElem?_eq_getElem h]
    simp
  · rw [List.set_eq_of_length_le (by omega)]
theorem rowLoads_zero (c : Int) : ∀ (ps ls : List Int), rowLoads ls ps (zeros ps.length ++ [c]) = ls
  | [], ls => rfl
  | p :: ps, ls => by
    show rowLoads (addAt ls p 0) ps (zeros ps.length ++ [c]) = ls
    rw [rowLoads_zero c ps, addAt_zero]
theorem loads_empty : ∀ (gs : List Gp) (ls : List Int), loadsFrom ls gs (gs.map emptyRow) = ls
  | [], ls => rfl
  | g :: gs, ls => by
    show loadsFrom (rowLoads ls g.1 (emptyRow g)) gs (gs.map emptyRow) = ls
    rw [loads_empty gs]
    exact rowLoads_zero g.2 g.1 ls
theorem zeros_sum : ∀ n : Nat, (zeros n).sum = 0
  | 0 => rfl
  | n + 1 => by show (0 :: zeros n).sum = 0; rw [List.sum_cons, zeros_sum n]; rfl
theorem empty_mem {g : Gp} {x : Int} (h : x ∈ emptyRow g) : x = 0 ∨ x = g.2 := by
  unfold emptyRow at h
  rw [List.mem_append] at h
  rcases h with h | h
  · exact .inl (List.eq_of_mem_replicate h)
  · simp at h; exact .inr h
theorem share_empty {g : Gp} (h : 1 ≤ g.2) : shareOk g.2 (emptyRow g) = true := by
  unfold shareOk
  rw [Bool.and_eq_true, List.all_eq_true, decide_eq_true_eq]
  refine ⟨?_, ?_⟩
  · intro x hx
    rcases empty_mem hx with e | e <;> rw [decide_eq_true_eq] <;> omega
  · unfold emptyRow
    rw [List.sum_append, zeros_sum]; simp
theorem isAsg_empty {cs : List Int} {gs : List Gp} (ok : InsOk cs gs) : isAsg cs gs (gs.map emptyRow) = true := by
  unfold isAsg
  rw [Bool.and_eq_true, List.all_eq_true, List.all_eq_true]
  refine ⟨?_, ?_⟩
  · rintro ⟨g, row⟩ hq
    obtain ⟨i, hi⟩ := List.getElem?_of_mem hq
    rw [List.getElem?_zip_eq_some] at hi
    obtain ⟨h1, h2⟩ := hi
    rw [List.getElem?_map, h1] at h2
    simp at h2
    subst h2
    exact share_empty (ok.gp g (List.mem_of_getElem? h1)).2.2.1
  · rintro ⟨l, c⟩ hq
    have hm := List.of_mem_zip hq
    unfold loadsOf at hm
    rw [loads_empty] at hm
    have h0 : l = 0 := List.eq_of_mem_replicate hm.1
    have hc := ok.cb c hm.2
    exact decide_eq_true (by show l ≤ c; omega)
theorem shp_empty (gs : List Gp) : Shp gs (gs.map emptyRow) := by
  refine ⟨by simp, ?_⟩
  intro i g row h1 h2
  rw [List.getElem?_map, h1] at h2
  simp at h2
  subst h2
  simp [emptyRow, zeros]
theorem bd_empty {cs : List Int} {gs : List Gp} (ok : InsOk cs gs) : Bd (gs.map emptyRow) := by
  intro row hr x hx
  obtain ⟨g, hg, rfl⟩ := List.mem_map.mp hr
  have := ok.gp g hg
  rcases empty_mem hx with e | e <;> omega

abbrev sLaw : Stmt := topS 22
theorem scLaw : FnScope ["_law_script", "_law_state", "_law_turn", "_law_instance_here", "_law_nobody", "_law_kept", "_law_assignment_here", "_law_due_here", "_law_posts", "_law_count"] ["_law_script"] (defScope sLaw) := ⟨rfl, rfl, rfl, by decide +kernel, rfl, by decide +kernel, by decide +kernel⟩
section
variable {P : Program} {w : World} {K : PySem.W.Frag} {mg : Str → Option Value} {base : Heap}
def spLaw (K : PySem.W.Frag) : Sp := fun vs H Q _ => ∃ (a : Addr) (ns : List Int), vs = [.ref a] ∧ SqL K H a (ns.map V.int) ∧ ns.length ≤ 63 ∧ ∀ H', Q (.bl true) H'
set_option maxHeartbeats 4000000 in
theorem ok_law {f fS fI fD fE fA fB fU fT : Addr} {fd fdS fdI fdD fdE fdA fdB fdU fdT : FuncData} (F : Fun K "law" "law" sLaw f fd)
    (FS : Fun K "_law_start" "_law_start" sStart fS fdS) (bS : Binds K fdS ["_law_script"] []) (gS : mg "_law_start" = some (.ref fS)) (GS : FnOk P w K mg base CX0 1 fS fdS ["_law_script"] (spStart K))
    (FI : Fun K "_law_instance" "_law_instance" sInst fI fdI) (bI : Binds K fdI ["_law_state", "_law_posts", "_law_groups", "_law_most"] []) (gI : mg "_law_instance" = some (.ref fI)) (GI : FnOk P w K mg base CX0 2 fI fdI ["_law_state", "_law_posts", "_law_groups", "_law_most"] (spInst K))
    (FD : Fun K "_law_draw" "_law_draw" sDraw fD fdD) (bD : Binds K fdD ["_law_state", "_law_below"] []) (gD : mg "_law_draw" = some (.ref fD)) (GD : FnOk P w K mg base CX0 1 fD fdD ["_law_state", "_law_below"] spDraw)
    (FE : Fun K "empty_assignment" "empty_assignment" sEmpty fE fdE) (bE : Binds K fdE ["instance"] []) (gE : mg "empty_assignment" = some (.ref fE)) (GE : FnOk P w K mg base CX0 1 fE fdE ["instance"] (spEmpty K))
    (FA : Fun K "is_assignment" "is_assignment" sIA fA fdA) (bA : Binds K fdA ["instance", "value"] []) (gA : mg "is_assignment" = some (.ref fA)) (GA : FnOk P w K mg base CX0 4 fA fdA ["instance", "value"] (spIsA K))
    (FB : Fun K "_law_assignment" "_law_assignment" sAsg fB fdB) (bB : Binds K fdB ["_law_state", "_law_instance_here"] []) (gB : mg "_law_assignment" = some (.ref fB)) (GB : FnOk P w K mg base CX0 3 fB fdB ["_law_state", "_law_instance_here"] (spAsg K))
    (FU : Fun K "_law_due" "_law_due" sDue fU fdU) (bU : Binds K fdU ["_law_instance_here", "_law_assignment_here"] []) (gU : mg "_law_due" = some (.ref fU)) (GU : FnG P w K mg base 2 fU fdU ["_law_instance_here", "_law_assignment_here"] (spTold K))
    (FT : Fun K "_law_told" "_law_told" sTold fT fdT) (bT : Binds K fdT ["_law_instance_here", "_law_assignment_here"] []) (gT : mg "_law_told" = some (.ref fT)) (GT : FnG P w K mg base 2 fT fdT ["_law_instance_here", "_law_assignment_here"] (spTold K))
    (mr : mg "range" = none) (mt : mg "tuple" = none) (ml : mg "len" = none) (mrp : mg "repr" = none) : FnG P w K mg base 5 f fd ["_law_script"] (spLaw K) := by
  refine okG F scLaw (fun vs H Q E h => ?_) (fun cdv A outer s H vs Q E hgd hr h => ?_)
  · obtain ⟨a, ns, rfl, _⟩ := h; rfl
  · obtain ⟨a, ns, rfl, hS, hn, q⟩ := h
    refine ⟨_, pss_cons (ps_set (i := 1) scLaw.nd rfl (.inl rfl) (pe_call GS (hr.mono (by decide)) (by rfl) gS FS.kp bS .nil pass0 (pa_cons (pv 0) pa_nil)))
      (pss_cons (ps_for PassesOwn.never rfl (pi_range1 (by rfl) mr (pa_cons pe_int pa_nil)) (pg_name (i := 2) scLaw.nd rfl (.inl rfl))
        (pss_cons (ps_set (i := 3) scLaw.nd rfl (.inl rfl) (pe_call GI (hr.mono (by decide)) (by rfl) gI FI.kp bI .nil pass0 (pa_cons (pv 1) (pa_cons pe_int (pa_cons pe_int (pa_cons
            (pe_ix ix_list (pe_lst (pa_cons pe_int (pa_cons pe_int (pa_cons (pe_op op_pow pe_int pe_int) pa_nil)))) (pe_call GD (hr.mono (by decide)) (by rfl) gD FD.kp bD .nil pass0 (pa_cons (pv 1) (pa_cons pe_int pa_nil))) (fun _ _ => rfl)) pa_nil))))))
        (pss_cons (ps_set (i := 4) scLaw.nd rfl (.inl rfl) (pe_callTy call_tuple_of (by rfl) mt (by decide +kernel) (pa_cons
            (pe_lc (own := [("_law_posts", 8), ("_law_count", 9)]) (g := gTup K 2 (gCons (gName 8) (gCons (gName 9) gNil))) (tt := tYes)
              (te := tCB (rTupQ K) (tCons (tOp rCat (tOp rRep (tLst (tCons (tC (.int 0)) tNil)) (tCB (rLenQ K) (tCons (tVar 8) tNil))) (tLst (tCons (tVar 9) tNil))) tNil)) rfl scLaw.nd (pi_tup (pe_ix ix_tup (pv 3) pe_int (fun _ _ => rfl)))
              (blkOk_by (N := ["_law_script", "_law_state", "_law_turn", "_law_instance_here", "_law_nobody", "_law_kept", "_law_assignment_here", "_law_due_here", "_law_posts", "_law_count"]) (sc := defScope sLaw) (by decide +kernel))
              (fun _ _ _ _ _ => pg_tup rfl (pgs_cons (pg_name (i := 8) scLaw.nd rfl (.inl rfl)) (pgs_cons (pg_name (i := 9) scLaw.nd rfl (.inl rfl)) pgs_nil))) (fun _ _ _ _ _ => pts_nil)
              (fun _ _ _ _ _ => pe_callTy call_tupQ (by rfl) mt (by decide +kernel) (pa_cons (pe_op op_cat (pe_op op_rep (pe_lst (pa_cons pe_int pa_nil)) (pe_callB call_lenQ (by rfl) ml PySem.boot_len (pa_cons (pv 8) pa_nil))) (pe_lst (pa_cons (pv 9) pa_nil))) pa_nil))) pa_nil)))
        (pss_cons (ps_set (i := 5) scLaw.nd rfl (.inl rfl) (pe_callB (call_reprD hgd (hu70 hr)) (by rfl) mrp (by decide +kernel) (pa_cons (pv 3) pa_nil)))
        (pss_cons (ps_if (PW.pt (pw_or (pt_cmpR op_ne (pe_callB (call_reprD hgd (hu70 hr)) (by rfl) mrp (by decide +kernel) (pa_cons (pe_call GE (hr.mono (by decide)) (by rfl) gE FE.kp bE .nil pass0 (pa_cons (pv 3) pa_nil)) pa_nil))
              (pe_callB (call_reprD hgd (hu70 hr)) (by rfl) mrp (by decide +kernel) (pa_cons (pv 4) pa_nil)) (nomark _))
            (pw_or1 (pt_cmpR op_notBl (pe_call GA hr (by rfl) gA FA.kp bA .nil pass0 (pa_cons (pv 3) (pa_cons (pv 4) pa_nil))) pe_bl (nomark _))))) (pss_one (ps_ret pe_bl)) pss_nil)
        (pss_cons (ps_for PassesOwn.never rfl (pi_list (pe_lst (pa_cons (pv 4) (pa_cons (pe_call GB (hr.mono (by decide)) (by rfl) gB FB.kp bB .nil pass0 (pa_cons (pv 1) (pa_cons (pv 3) pa_nil)))
              (pa_cons (pe_call GB (hr.mono (by decide)) (by rfl) gB FB.kp bB .nil pass0 (pa_cons (pv 1) (pa_cons (pv 3) pa_nil))) pa_nil))))) (pg_name (i := 6) scLaw.nd rfl (.inl rfl))
            (pss_cons (ps_set (i := 7) scLaw.nd rfl (.inl rfl) (pe_callG GU hgd (hr.mono (by decide)) (by rfl) gU FU.kp bU (pa_cons (pv 3) (pa_cons (pv 6) pa_nil))))
            (pss_one (ps_if (PW.pt (pw_or (pt_cmpR op_ne (pe_callG GT hgd (hr.mono (by decide)) (by rfl) gT FT.kp bT (pa_cons (pv 3) (pa_cons (pv 6) pa_nil))) (pv 7) (nomark _))
              (pw_or1 (pt_cmpR op_ne (pe_callG GT hgd (hr.mono (by decide)) (by rfl) gT FT.kp bT (pa_cons (pv 3) (pa_cons (pv 6) pa_nil))) (pv 7) (nomark _))))) (pss_one (ps_ret pe_bl)) pss_nil))))
        (pss_one (ps_if (pt_cmpR op_ne (pe_callB (call_reprD hgd (hu70 hr)) (by rfl) mrp (by decide +kernel) (pa_cons (pv 3) pa_nil)) (pv 5) (nomark _)) (pss_one (ps_ret pe_bl)) pss_nil))))))))
      (pss_one (ps_ret pe_bl))), ?_⟩
    refine ⟨.ref a, rfl, a, ns, rfl, hS, hn, fun H1 st c r s1 D1 => ?_⟩
    refine ⟨6, rfl, by decide, by decide, for_it (walk_range (lo := 0) (n := (6 : Int).toNat))
      (fun i σ H2 => ∃ (y2 y3 y4 y5 y6 y7 : Option V) (t2 : Nat), σ = [some (.ref a), some (.ref st), y2, y3, y4, y5, y6, y7, none, none] ∧ DS H2 st c r t2 ∧ t2 ≤ 700 * i)
      ⟨none, none, none, none, none, none, 0, rfl, D1, by omega⟩ (fun _ _ _ _ _ => trivial) ?_ (fun σ H2 _ => q _)⟩
    rintro i v σ H2 H2' hlt ⟨y2, y3, y4, y5, y6, y7, t2, rfl, d2, ht2⟩ ⟨rfl, rfl⟩
    have hi6 : i < 6 := hlt
    -- the instance
    refine ⟨.ref st, rfl, _, _, rfl, rfl, ⟨by decide, by decide, by decide⟩, (show (3 : Nat) ≤ sizeLine by decide), fun L nL => ⟨.ref st, rfl, st, c, r, t2, _, rfl, d2.new nL, by omega, by decide, by decide, fun H3 d h0 h1 D3 X3 => ?_⟩⟩
    have oL := d2.off nL
    have eL := X3 L _ upd_same oL.1 oL.2.2
    obtain ⟨m, hm, hm1, hm2⟩ : ∃ m : Int, atI [V.int 3, V.int 20, V.int ((10 : Int) ^ (12 : Int).toNat)] d = some (.int m) ∧ 1 ≤ m ∧ m ≤ 10 ^ 12 := by
      obtain h | h | h : d = 0 ∨ d = 1 ∨ d = 2 := by omega
      · exact ⟨3, by rw [h]; rfl, by decide, by decide⟩
      · exact ⟨20, by rw [h]; rfl, by decide, by decide⟩
      · exact ⟨10 ^ 12, by rw [h]; rfl, by decide, by decide⟩
    refine ⟨L, _, _, _, rfl, rfl, SqL.of eL, hm, st, c, r, t2 + 1, m, rfl, D3, by omega, hm1, hm2, fun H4 I t4 cs gs D4 ht4 X4 hI ok => ?_⟩
    have h6 := ok.c6
    have h10 := ok.g10
    obtain ⟨_, ca, ga, xs, e, hi, hc, hg, hgs⟩ := inst_open hI
    cases e
    have lx := DpAll.len hgs
    rw [List.length_map] at lx
    have fI := fine_inst ok
    have fN := fine_asg ok (shp_empty gs) (bd_empty ok)
    -- nobody
    refine ⟨.ref I, rfl, I, _, 1, .ref ga, rfl, rfl, hi, atI_nat (j := 1) rfl, ga, rfl, ⟨_, hg⟩, fun D nD => lc_tup (xs := xs)
      (fun j Hx => Same H4 Hx ∧ ∃ vs, Hx D = some (.lst vs) ∧ vs.length = j ∧ DpAll K Hx vs (((gs.take j).map emptyRow).map dI)) ⟨sameNew nD, [], upd_same, rfl, .nil⟩ (fun j Hx _ h2 => (TupK.of h2.1).sq hg) ?_ ?_⟩
    · rintro j x Hx hx ⟨sx, vs, ex, hvl, hvs⟩
      obtain ⟨dd, hdd, hxd⟩ := DpAll.at hgs hx
      rw [List.getElem?_map] at hdd
      obtain ⟨g, hgi, rfl⟩ := Option.map_eq_some_iff.mp hdd
      obtain ⟨gA, pA, rfl, hG, hP⟩ := grp_ref hxd
      have tkx := TupK.of sx
      have hgl := (ok.gp g (List.mem_of_getElem? hgi)).1
      have hjl : j < gs.length := (List.getElem?_eq_some_iff.mp hgi).1
      refine ⟨gA, _, rfl, tkx.sq hG, rfl, _, _, rfl, _, _, rfl, rfl, rfl, (show (1 : Nat) ≤ sizeLine by decide), fun p0 n0 => ⟨.ref pA, rfl, pA, _, rfl, .inr ((TupK.new n0).sq (tkx.sq hP)), p0, _, _, rfl, rfl, upd_same, by omega, ?_, ?_, fun p1 n1 =>
        ⟨.int g.2, rfl, (show (1 : Nat) ≤ sizeLine by decide), fun p2 n2 => ⟨p1, p2, _, _, rfl, rfl, upNew n2 upd_same, upd_same, ?_, fun p3 n3 => ⟨p3, _, rfl, .inl ⟨SqL.of upd_same, fun T nT => ?_⟩⟩⟩⟩⟩⟩
      · rw [List.length_map]; omega
      · rw [List.length_map]; have := small (n := 6) (by omega); simp; omega
      · have := small (n := 7) (by omega)
        rw [List.length_map, Int.toNat_natCast, zeros_V, List.length_map]; simp [zeros]; omega
      · have sT : Same Hx _ := ((((sameNew n0).trans (sameNew n1)).trans (sameNew n2)).trans (sameNew n3)).trans (sameNew nT (o := .tup ((List.replicate ((((g.1.map V.int).length : Nat) : Int)).toNat [V.int 0]).flatten ++ [V.int g.2])))
        have eT := sT _ _ ex
        have er : (List.replicate ((((g.1.map V.int).length : Nat) : Int)).toNat [V.int 0]).flatten ++ [V.int g.2] = (emptyRow g).map V.int := by
          rw [List.length_map, Int.toNat_natCast, zeros_V]; unfold emptyRow; rw [List.map_append]; rfl
        refine ⟨vs, eT, by rw [hvl]; exact small (by omega), samePut (sx.trans sT) nD, _, upd_same, by simp [hvl], ?_⟩
        have et : ((gs.take (j + 1)).map emptyRow).map dI = ((gs.take j).map emptyRow).map dI ++ [dI (emptyRow g)] := by rw [take_snoc hgi]; simp
        rw [et]
        refine DpAll.snoc (((TupK.of sT).trans (TupK.put eT)).dpAll _ _ (to_rows _) hvs) (dI_sq ((TupK.put eT).sq (SqT.of ?_)))
        rw [upd_same, er]
    rintro H5 ⟨s5, vs, e5, hvl, hvs⟩
    rw [lx, List.take_length] at hvs
    refine ⟨D, _, rfl, .inl ⟨SqL.of e5, fun Nb nNb => ?_⟩⟩
    generalize hH6 : upd H5 Nb (.tup vs) = H6
    have s6 : Same H4 H6 := by rw [← hH6]; exact s5.trans (sameNew nNb)
    have hI6 := (TupK.of s6).dp _ _ (to_dInst cs gs) hI
    have hN6 : Dp K H6 (.ref Nb) (dAsg (gs.map emptyRow)) := by rw [← hH6]; exact .tup (SqT.of upd_same) ((TupK.new nNb).dpAll _ _ (to_rows _) hvs)
    -- kept
    refine ⟨.ref I, rfl, I, _, rfl, hI6, fI.sh, fI.nd, Nat.le_trans fI.dp (by decide), Nat.le_trans fI.ln (by decide), ?_⟩
    -- the first test
    refine ⟨.ref I, rfl, I, cs, gs, rfl, hI6, by omega, (fun g hg => by have := (ok.gp g hg).1; omega), fun H7 Em s7 hE => ?_⟩
    have tk7 := TupK.of s7
    refine ⟨Em, _, rfl, hE, fN.sh, fN.nd, Nat.le_trans fN.dp (by decide), Nat.le_trans fN.ln (by decide), .ref Nb, rfl, Nb, _, rfl, tk7.dp _ _ (to_dAsg _) hN6, fN.sh, fN.nd, Nat.le_trans fN.dp (by decide), Nat.le_trans fN.ln (by decide), rfl, _, rfl, iteNS rfl ?_⟩
    refine ⟨.ref I, rfl, .ref Nb, rfl, I, Nb, cs, gs, _, rfl, tk7.dp _ _ (to_dInst _ _) hI6, tk7.dp _ _ (to_dAsg _) hN6, by omega, by omega, ok.inR, (fun g hg => by have := (ok.gp g hg).1; omega), shp_empty gs, fun H8 s8 => ?_⟩
    rw [isAsg_empty ok]
    refine ⟨_, _, rfl, rfl, _, rfl, iteNS rfl ?_⟩
    have s68 := s7.trans s8
    have hI8 := (TupK.of s68).dp _ _ (to_dInst cs gs) hI6
    have hN8 := (TupK.of s68).dp _ _ (to_dAsg _) hN6
    have D8 := D4.same (s6.trans s68)
    -- two assignments
    refine ⟨.ref Nb, rfl, .ref st, rfl, .ref I, rfl, st, c, r, I, t4, cs, gs, rfl, D8, by omega, hI8, ok, fun H9 A1 t9 rows1 D9 ht9 X9 hA1 sh1 bd1 => ?_⟩
    have tk9 := X9.tup D8
    have hI9 := tk9.dp _ _ (to_dInst cs gs) hI8
    refine ⟨.ref st, rfl, .ref I, rfl, st, c, r, I, t9, cs, gs, rfl, D9, by omega, hI9, ok, fun H10 A2 t10 rows2 D10 ht10 X10 hA2 sh2 bd2 => ⟨(show (3 : Nat) ≤ sizeLine by decide), fun Ls nLs => ?_⟩⟩
    have tk10 := (X10.tup D9).trans (TupK.new nLs (o := .lst [.ref Nb, .ref A1, .ref A2]))
    generalize hHl : upd H10 Ls (.lst [.ref Nb, .ref A1, .ref A2]) = Hl at *
    have eLs : Hl Ls = some (.lst [.ref Nb, .ref A1, .ref A2]) := by rw [← hHl]; exact upd_same
    have Dl : DS Hl st c r t10 := by rw [← hHl]; exact D10.new nLs
    have hIl := tk10.dp _ _ (to_dInst cs gs) hI9
    have items : ∀ (j : Nat) (x : V), [V.ref Nb, V.ref A1, V.ref A2][j]? = some x → ∃ p rows, x = .ref p ∧ Dp K Hl x (dAsg rows) ∧ Shp gs rows ∧ Bd rows := by
      intro j x hx
      match j, hx with
      | 0, hx => cases hx; exact ⟨Nb, _, rfl, (tk9.trans tk10).dp _ _ (to_dAsg _) hN8, shp_empty gs, bd_empty ok⟩
      | 1, hx => cases hx; exact ⟨A1, rows1, rfl, tk10.dp _ _ (to_dAsg _) hA1, sh1, bd1⟩
      | 2, hx => cases hx; exact ⟨A2, rows2, rfl, (by rw [← hHl]; exact (TupK.new nLs).dp _ _ (to_dAsg _) hA2), sh2, bd2⟩
      | n + 3, hx => simp at hx
    refine ⟨Ls, rfl, ⟨_, SqL.of eLs⟩, for_it (walk_list (K := K) (a := Ls) (xs := [.ref Nb, .ref A1, .ref A2]))
      (fun j σ Hx => ∃ (z2 z6 z7 : Option V), σ = [some (.ref a), some (.ref st), z2, some (.ref I), some (.ref Nb), some (.str (dInst cs gs).shown), z6, z7, none, none] ∧ Same Hl Hx)
      ⟨_, _, _, rfl, Same.refl _⟩ ?_ ?_ ?_⟩
    · rintro j σ Hx _ ⟨z2, z6, z7, rfl, sx⟩
      exact SqL.of (sx _ _ eLs)
    · rintro j x σ Hx Hx' hltj ⟨z2, z6, z7, rfl, sx⟩ ⟨rfl, hx⟩
      obtain ⟨p, rows, rfl, hp, sh, bd⟩ := items j x hx
      have tkx := TupK.of sx
      refine ⟨.ref I, rfl, .ref p, rfl, I, p, cs, gs, rows, rfl, tkx.dp _ _ (to_dInst _ _) hIl, tkx.dp _ _ (to_dAsg _) hp, ok, sh, bd, fun Ha sa => ?_⟩
      have sxa := sx.trans sa
      have tka := TupK.of sxa
      refine ⟨.ref I, rfl, .ref p, rfl, I, p, cs, gs, rows, rfl, tka.dp _ _ (to_dInst _ _) hIl, tka.dp _ _ (to_dAsg _) hp, ok, sh, bd, fun Hb sb => ⟨_, rfl, rfl, _, rfl, iteNS rfl ?_⟩⟩
      have sxb := sxa.trans sb
      have tkb := TupK.of sxb
      refine ⟨.ref I, rfl, .ref p, rfl, I, p, cs, gs, rows, rfl, tkb.dp _ _ (to_dInst _ _) hIl, tkb.dp _ _ (to_dAsg _) hp, ok, sh, bd, fun Hc sc => ⟨_, rfl, rfl, _, rfl, iteNS rfl ?_⟩⟩
      exact ⟨_, _, _, rfl, sxb.trans sc⟩
    · rintro σ Hx ⟨z2, z6, z7, rfl, sx⟩
      refine ⟨.ref I, rfl, I, _, rfl, (TupK.of sx).dp _ _ (to_dInst _ _) hIl, fI.sh, fI.nd, Nat.le_trans fI.dp (by decide), Nat.le_trans fI.ln (by decide), _, rfl, rfl, _, rfl, iteNS rfl ?_⟩
      exact ⟨_, _, _, _, _, _, t10, rfl, Dl.same sx, by omega⟩
end
end Pv

namespace Pv
open PySem PySem.Spec PyProof.Rows L2
/-! what the top has left -/
theorem all_mk {l : PySem.W.OpenLaw} {w : World} {K : PySem.W.Frag} {h : Heap} {mg : Str → Option Value} {fa fWh fWi fTo fSp fIA fLo fUn fEm fSt fDr fIn fFa fAs fLL fTl fDu fLa : Addr} (X : K.In h) (G : h.Ns mainGlobals mg) (hfa : mg "law" = some (.ref fa))
    {odWh anWh odWi anWi odTo anTo odSp anSp odIA anIA odLo anLo odUn anUn odEm anEm odSt anSt odDr anDr odIn anIn odFa anFa odAs anAs odLL anLL odTl anTl odDu anDu odLa anLa : Option Addr} {slWh slWi slTo slSp slIA slLo slUn slEm slSt slDr slIn slFa slAs slLL slTl slDu slLa : Array (Option Value)}
    {ocWh kVWh dcWh pmWh cdWh ctWh ocWi kVWi dcWi pmWi cdWi ctWi ocTo kVTo dcTo pmTo cdTo ctTo ocSp kVSp dcSp pmSp cdSp ctSp ocIA kVIA dcIA pmIA cdIA ctIA ocLo kVLo dcLo pmLo cdLo ctLo ocUn kVUn dcUn pmUn cdUn ctUn ocEm kVEm dcEm pmEm cdEm ctEm ocSt kVSt dcSt pmSt cdSt ctSt ocDr kVDr dcDr pmDr cdDr ctDr ocIn kVIn dcIn pmIn cdIn ctIn ocFa kVFa dcFa pmFa cdFa ctFa ocAs kVAs dcAs pmAs cdAs ctAs ocLL kVLL dcLL pmLL cdLL ctLL ocTl kVTl dcTl pmTl cdTl ctTl ocDu kVDu dcDu pmDu cdDu ctDu ocLa kVLa dcLa pmLa cdLa ctLa : Value}
    (aWh : PySem.W.nsIn K mainGlobals "is_whole" = some (some (.ref fWh))) (lWh : K.lookup fWh = some ⟨ocWh, odWh, .func (PySem.W.fnOf "is_whole" "is_whole" (defArgs sWhole) (defBody sWhole) (defScope sWhole) .none kVWh dcWh pmWh anWh cdWh ctWh), slWh⟩)
      (cWh : PySem.W.codeIn K cdWh "is_whole" = true) (kWh : PySem.W.keepIn K (.ref fWh) = true)
    (aWi : PySem.W.nsIn K mainGlobals "is_within" = some (some (.ref fWi))) (lWi : K.lookup fWi = some ⟨ocWi, odWi, .func (PySem.W.fnOf "is_within" "is_within" (defArgs sWithin) (defBody sWithin) (defScope sWithin) .none kVWi dcWi pmWi anWi cdWi ctWi), slWi⟩)
      (cWi : PySem.W.codeIn K cdWi "is_within" = true) (kWi : PySem.W.keepIn K (.ref fWi) = true)
    (aTo : PySem.W.nsIn K mainGlobals "is_tuple_of" = some (some (.ref fTo))) (lTo : K.lookup fTo = some ⟨ocTo, odTo, .func (PySem.W.fnOf "is_tuple_of" "is_tuple_of" (defArgs sTupOf) (defBody sTupOf) (defScope sTupOf) .none kVTo dcTo pmTo anTo cdTo ctTo), slTo⟩)
      (cTo : PySem.W.codeIn K cdTo "is_tuple_of" = true) (kTo : PySem.W.keepIn K (.ref fTo) = true)
    (aSp : PySem.W.nsIn K mainGlobals "is_split" = some (some (.ref fSp))) (lSp : K.lookup fSp = some ⟨ocSp, odSp, .func (PySem.W.fnOf "is_split" "is_split" (defArgs sSp) (defBody sSp) (defScope sSp) .none kVSp dcSp pmSp anSp cdSp ctSp), slSp⟩)
      (cSp : PySem.W.codeIn K cdSp "is_split" = true) (kSp : PySem.W.keepIn K (.ref fSp) = true)
    (aIA : PySem.W.nsIn K mainGlobals "is_assignment" = some (some (.ref fIA))) (lIA : K.lookup fIA = some ⟨ocIA, odIA, .func (PySem.W.fnOf "is_assignment" "is_assignment" (defArgs sIA) (defBody sIA) (defScope sIA) .none kVIA dcIA pmIA anIA cdIA ctIA), slIA⟩)
      (cIA : PySem.W.codeIn K cdIA "is_assignment" = true) (kIA : PySem.W.keepIn K (.ref fIA) = true)
    (aLo : PySem.W.nsIn K mainGlobals "post_loads" = some (some (.ref fLo))) (lLo : K.lookup fLo = some ⟨ocLo, odLo, .func (PySem.W.fnOf "post_loads" "post_loads" (defArgs sLoads) (defBody sLoads) (defScope sLoads) .none kVLo dcLo pmLo anLo cdLo ctLo), slLo⟩)
      (cLo : PySem.W.codeIn K cdLo "post_loads" = true) (kLo : PySem.W.keepIn K (.ref fLo) = true)
    (aUn : PySem.W.nsIn K mainGlobals "unassigned_count" = some (some (.ref fUn))) (lUn : K.lookup fUn = some ⟨ocUn, odUn, .func (PySem.W.fnOf "unassigned_count" "unassigned_count" (defArgs sUn) (defBody sUn) (defScope sUn) .none kVUn dcUn pmUn anUn cdUn ctUn), slUn⟩)
      (cUn : PySem.W.codeIn K cdUn "unassigned_count" = true) (kUn : PySem.W.keepIn K (.ref fUn) = true)
    (aEm : PySem.W.nsIn K mainGlobals "empty_assignment" = some (some (.ref fEm))) (lEm : K.lookup fEm = some ⟨ocEm, odEm, .func (PySem.W.fnOf "empty_assignment" "empty_assignment" (defArgs sEmpty) (defBody sEmpty) (defScope sEmpty) .none kVEm dcEm pmEm anEm cdEm ctEm), slEm⟩)
      (cEm : PySem.W.codeIn K cdEm "empty_assignment" = true) (kEm : PySem.W.keepIn K (.ref fEm) = true)
    (aSt : PySem.W.nsIn K mainGlobals "_law_start" = some (some (.ref fSt))) (lSt : K.lookup fSt = some ⟨ocSt, odSt, .func (PySem.W.fnOf "_law_start" "_law_start" (defArgs sStart) (defBody sStart) (defScope sStart) .none kVSt dcSt pmSt anSt cdSt ctSt), slSt⟩)
      (cSt : PySem.W.codeIn K cdSt "_law_start" = true) (kSt : PySem.W.keepIn K (.ref fSt) = true)
    (aDr : PySem.W.nsIn K mainGlobals "_law_draw" = some (some (.ref fDr))) (lDr : K.lookup fDr = some ⟨ocDr, odDr, .func (PySem.W.fnOf "_law_draw" "_law_draw" (defArgs sDraw) (defBody sDraw) (defScope sDraw) .none kVDr dcDr pmDr anDr cdDr ctDr), slDr⟩)
      (cDr : PySem.W.codeIn K cdDr "_law_draw" = true) (kDr : PySem.W.keepIn K (.ref fDr) = true)
    (aIn : PySem.W.nsIn K mainGlobals "_law_instance" = some (some (.ref fIn))) (lIn : K.lookup fIn = some ⟨ocIn, odIn, .func (PySem.W.fnOf "_law_instance" "_law_instance" (defArgs sInst) (defBody sInst) (defScope sInst) .none kVIn dcIn pmIn anIn cdIn ctIn), slIn⟩)
      (cIn : PySem.W.codeIn K cdIn "_law_instance" = true) (kIn : PySem.W.keepIn K (.ref fIn) = true)
    (aFa : PySem.W.nsIn K mainGlobals "_law_far_amount" = some (some (.ref fFa))) (lFa : K.lookup fFa = some ⟨ocFa, odFa, .func (PySem.W.fnOf "_law_far_amount" "_law_far_amount" (defArgs sFar) (defBody sFar) (defScope sFar) .none kVFa dcFa pmFa anFa cdFa ctFa), slFa⟩)
      (cFa : PySem.W.codeIn K cdFa "_law_far_amount" = true) (kFa : PySem.W.keepIn K (.ref fFa) = true)
    (aAs : PySem.W.nsIn K mainGlobals "_law_assignment" = some (some (.ref fAs))) (lAs : K.lookup fAs = some ⟨ocAs, odAs, .func (PySem.W.fnOf "_law_assignment" "_law_assignment" (defArgs sAsg) (defBody sAsg) (defScope sAsg) .none kVAs dcAs pmAs anAs cdAs ctAs), slAs⟩)
      (cAs : PySem.W.codeIn K cdAs "_law_assignment" = true) (kAs : PySem.W.keepIn K (.ref fAs) = true)
    (aLL : PySem.W.nsIn K mainGlobals "_law_loads" = some (some (.ref fLL))) (lLL : K.lookup fLL = some ⟨ocLL, odLL, .func (PySem.W.fnOf "_law_loads" "_law_loads" (defArgs sLLoads) (defBody sLLoads) (defScope sLLoads) .none kVLL dcLL pmLL anLL cdLL ctLL), slLL⟩)
      (cLL : PySem.W.codeIn K cdLL "_law_loads" = true) (kLL : PySem.W.keepIn K (.ref fLL) = true)
    (aTl : PySem.W.nsIn K mainGlobals "_law_told" = some (some (.ref fTl))) (lTl : K.lookup fTl = some ⟨ocTl, odTl, .func (PySem.W.fnOf "_law_told" "_law_told" (defArgs sTold) (defBody sTold) (defScope sTold) .none kVTl dcTl pmTl anTl cdTl ctTl), slTl⟩)
      (cTl : PySem.W.codeIn K cdTl "_law_told" = true) (kTl : PySem.W.keepIn K (.ref fTl) = true)
    (aDu : PySem.W.nsIn K mainGlobals "_law_due" = some (some (.ref fDu))) (lDu : K.lookup fDu = some ⟨ocDu, odDu, .func (PySem.W.fnOf "_law_due" "_law_due" (defArgs sDue) (defBody sDue) (defScope sDue) .none kVDu dcDu pmDu anDu cdDu ctDu), slDu⟩)
      (cDu : PySem.W.codeIn K cdDu "_law_due" = true) (kDu : PySem.W.keepIn K (.ref fDu) = true)
    (aLa : PySem.W.nsIn K mainGlobals "law" = some (some (.ref fLa))) (lLa : K.lookup fLa = some ⟨ocLa, odLa, .func (PySem.W.fnOf "law" "law" (defArgs sLaw) (defBody sLaw) (defScope sLaw) .none kVLa dcLa pmLa anLa cdLa ctLa), slLa⟩)
      (cLa : PySem.W.codeIn K cdLa "law" = true) (kLa : PySem.W.keepIn K (.ref fLa) = true)
    (z0 : PySem.W.nsIn K mainGlobals "isinstance" = some none)
    (z1 : PySem.W.nsIn K mainGlobals "int" = some none)
    (z2 : PySem.W.nsIn K mainGlobals "bool" = some none)
    (z3 : PySem.W.nsIn K mainGlobals "tuple" = some none)
    (z4 : PySem.W.nsIn K mainGlobals "len" = some none)
    (z5 : PySem.W.nsIn K mainGlobals "all" = some none)
    (z6 : PySem.W.nsIn K mainGlobals "sum" = some none)
    (z7 : PySem.W.nsIn K mainGlobals "zip" = some none)
    (z8 : PySem.W.nsIn K mainGlobals "abs" = some none)
    (z9 : PySem.W.nsIn K mainGlobals "min" = some none)
    (z10 : PySem.W.nsIn K mainGlobals "list" = some none)
    (z11 : PySem.W.nsIn K mainGlobals "range" = some none)
    (z12 : PySem.W.nsIn K mainGlobals "repr" = some none)
    : ∃ fd : FuncData, (∀ (s : Shared) (v : Value), BindsTo s fd ⟨[v], []⟩ [("_law_script", v)]) ∧ ∀ base : Heap, K.In base → base.Ns mainGlobals mg → FnG l.prog w K mg base 5 fa fd ["_law_script"] (spLaw K) := by
  have e := hfa.symm.trans (PySem.W.mg_of X G aLa)
  cases e
  have FWh := fun_mk (st := sWhole) lWh cWh kWh
  have bWh := FWh.binds (ps := ["value"]) fun _ _ _ _ _ _ us hl => match us, hl with | [_], _ => rfl
  have gWh := PySem.W.mg_of X G aWh
  have FWi := fun_mk (st := sWithin) lWi cWi kWi
  have bWi := FWi.binds (ps := ["value", "least", "most"]) fun _ _ _ _ _ _ us hl => match us, hl with | [_, _, _], _ => rfl
  have gWi := PySem.W.mg_of X G aWi
  have FTo := fun_mk (st := sTupOf) lTo cTo kTo
  have bTo := FTo.binds (ps := ["value", "least", "most"]) fun _ _ _ _ _ _ us hl => match us, hl with | [_, _, _], _ => rfl
  have gTo := PySem.W.mg_of X G aTo
  have FSp := fun_mk (st := sSp) lSp cSp kSp
  have bSp := FSp.binds (ps := ["value", "size", "total"]) fun _ _ _ _ _ _ us hl => match us, hl with | [_, _, _], _ => rfl
  have gSp := PySem.W.mg_of X G aSp
  have FIA := fun_mk (st := sIA) lIA cIA kIA
  have bIA := FIA.binds (ps := ["instance", "value"]) fun _ _ _ _ _ _ us hl => match us, hl with | [_, _], _ => rfl
  have gIA := PySem.W.mg_of X G aIA
  have FLo := fun_mk (st := sLoads) lLo cLo kLo
  have bLo := FLo.binds (ps := ["instance", "assignment"]) fun _ _ _ _ _ _ us hl => match us, hl with | [_, _], _ => rfl
  have gLo := PySem.W.mg_of X G aLo
  have FUn := fun_mk (st := sUn) lUn cUn kUn
  have bUn := FUn.binds (ps := ["instance", "assignment"]) fun _ _ _ _ _ _ us hl => match us, hl with | [_, _], _ => rfl
  have gUn := PySem.W.mg_of X G aUn
  have FEm := fun_mk (st := sEmpty) lEm cEm kEm
  have bEm := FEm.binds (ps := ["instance"]) fun _ _ _ _ _ _ us hl => match us, hl with | [_], _ => rfl
  have gEm := PySem.W.mg_of X G aEm
  have FSt := fun_mk (st := sStart) lSt cSt kSt
  have bSt := FSt.binds (ps := ["_law_script"]) fun _ _ _ _ _ _ us hl => match us, hl with | [_], _ => rfl
  have gSt := PySem.W.mg_of X G aSt
  have FDr := fun_mk (st := sDraw) lDr cDr kDr
  have bDr := FDr.binds (ps := ["_law_state", "_law_below"]) fun _ _ _ _ _ _ us hl => match us, hl with | [_, _], _ => rfl
  have gDr := PySem.W.mg_of X G aDr
  have FIn := fun_mk (st := sInst) lIn cIn kIn
  have bIn := FIn.binds (ps := ["_law_state", "_law_posts", "_law_groups", "_law_most"]) fun _ _ _ _ _ _ us hl => match us, hl with | [_, _, _, _], _ => rfl
  have gIn := PySem.W.mg_of X G aIn
  have FFa := fun_mk (st := sFar) lFa cFa kFa
  have bFa := FFa.binds (ps := ["_law_state", "_law_most"]) fun _ _ _ _ _ _ us hl => match us, hl with | [_, _], _ => rfl
  have gFa := PySem.W.mg_of X G aFa
  have FAs := fun_mk (st := sAsg) lAs cAs kAs
  have bAs := FAs.binds (ps := ["_law_state", "_law_instance_here"]) fun _ _ _ _ _ _ us hl => match us, hl with | [_, _], _ => rfl
  have gAs := PySem.W.mg_of X G aAs
  have FLL := fun_mk (st := sLLoads) lLL cLL kLL
  have bLL := FLL.binds (ps := ["_law_instance_here", "_law_assignment_here"]) fun _ _ _ _ _ _ us hl => match us, hl with | [_, _], _ => rfl
  have gLL := PySem.W.mg_of X G aLL
  have FTl := fun_mk (st := sTold) lTl cTl kTl
  have bTl := FTl.binds (ps := ["_law_instance_here", "_law_assignment_here"]) fun _ _ _ _ _ _ us hl => match us, hl with | [_, _], _ => rfl
  have gTl := PySem.W.mg_of X G aTl
  have FDu := fun_mk (st := sDue) lDu cDu kDu
  have bDu := FDu.binds (ps := ["_law_instance_here", "_law_assignment_here"]) fun _ _ _ _ _ _ us hl => match us, hl with | [_, _], _ => rfl
  have gDu := PySem.W.mg_of X G aDu
  have FLa := fun_mk (st := sLaw) lLa cLa kLa
  have m_isinstance := PySem.W.mg_none_of X G z0
  have m_int := PySem.W.mg_none_of X G z1
  have m_bool := PySem.W.mg_none_of X G z2
  have m_tuple := PySem.W.mg_none_of X G z3
  have m_len := PySem.W.mg_none_of X G z4
  have m_all := PySem.W.mg_none_of X G z5
  have m_sum := PySem.W.mg_none_of X G z6
  have m_zip := PySem.W.mg_none_of X G z7
  have m_abs := PySem.W.mg_none_of X G z8
  have m_min := PySem.W.mg_none_of X G z9
  have m_list := PySem.W.mg_none_of X G z10
  have m_range := PySem.W.mg_none_of X G z11
  have m_repr := PySem.W.mg_none_of X G z12
  refine ⟨PySem.W.fnOf "law" "law" (defArgs sLaw) (defBody sLaw) (defScope sLaw) .none kVLa dcLa pmLa anLa cdLa ctLa, fun s v => .of_eq rfl, fun base _ _ => ?_⟩
  have GWh := ok_whole (P := l.prog) (w := w) (base := base) (mg := mg) (k := 0) FWh m_isinstance m_int m_bool
  have GWi := ok_within (P := l.prog) (w := w) (base := base) (mg := mg) (k := 0) FWi FWh bWh gWh GWh
  have GTo := ok_tupOf (P := l.prog) (w := w) (base := base) (mg := mg) (k := 0) FTo m_isinstance m_tuple m_len
  have GSp := ok_Sp (P := l.prog) (w := w) (base := base) (mg := mg) FSp  FTo bTo gTo GTo FWi bWi gWi GWi m_all m_sum
  have GLo := ok_loads (P := l.prog) (w := w) (base := base) (mg := mg) (k := 0) FLo m_len m_zip m_tuple
  have GIA := ok_IA (P := l.prog) (w := w) (base := base) (mg := mg) FIA  FTo bTo gTo GTo FSp bSp gSp GSp FLo bLo gLo GLo m_len m_zip m_all
  have GUn := ok_un (P := l.prog) (w := w) (base := base) (mg := mg) (k := 0) FUn m_sum
  have GEm := ok_empty (P := l.prog) (w := w) (base := base) (mg := mg) (k := 0) FEm m_len m_tuple
  have GSt := ok_start (P := l.prog) (w := w) (base := base) (mg := mg) (k := 0) FSt m_abs m_int m_len
  have GDr := ok_draw (P := l.prog) (w := w) (base := base) (mg := mg) (k := 0) FDr m_len
  have GIn := ok_inst (P := l.prog) (w := w) (base := base) (mg := mg) (k := 0) FIn FDr bDr gDr GDr m_tuple m_range m_list m_len
  have GFa := ok_far (P := l.prog) (w := w) (base := base) (mg := mg) (k := 0) FFa FDr bDr gDr GDr m_min
  have GAs := ok_asg (P := l.prog) (w := w) (base := base) (mg := mg) (k := 0) FAs FFa bFa gFa GFa m_list m_min m_tuple
  have GLL := ok_lloads (P := l.prog) (w := w) (base := base) (mg := mg) (k := 0) FLL m_len m_zip
  have GTl := ok_told (P := l.prog) (w := w) (base := base) (mg := mg) (k := 0) FTl FLo bLo gLo GLo FUn bUn gUn GUn m_repr
  have GDu := ok_due (P := l.prog) (w := w) (base := base) (mg := mg) (k := 0) FDu FLL bLL gLL GLL m_repr m_sum m_tuple m_len
  exact ok_law FLa FSt bSt gSt GSt FIn bIn gIn GIn FDr bDr gDr GDr FEm bEm gEm GEm FIA bIA gIA GIA FAs bAs gAs GAs FDu bDu gDu GDu FTl bTl gTl GTl m_range m_tuple m_len m_repr

end Pv

open PySem PySem.W PyProof.Rows
set_option maxRecDepth 100000 in
set_option maxHeartbeats 0 in
theorem PySem.Challenge.cw_postvote_k04_loads_and_counts_holds : PySem.Challenge.rw_postvote_k04_loads_and_counts.Holds := by
  w_on; o_law; k_head; (case hw => w_witness2)
  k_fill
  refine Pv.walkG (l := PySem.Challenge.rw_postvote_k04_loads_and_counts) (n := 63) (k := 5) (x := "_law_script") (sp := fun w => Pv.spLaw _) rfl (by decide) rfl ⟨rfl, by decide, by decide⟩ (fun w h Y => PySem.W.kIn_of Y) ?F (fun _ _ a ns hl _ _ hS => ⟨a, ns, rfl, hS, hl, fun _ => rfl⟩)
  case F =>
    intro w mg fa h KX G hmg
    refine' Pv.all_mk KX G hmg ?aWh ?lWh ?cWh ?kWh ?aWi ?lWi ?cWi ?kWi ?aTo ?lTo ?cTo ?kTo ?aSp ?lSp ?cSp ?kSp ?aIA ?lIA ?cIA ?kIA ?aLo ?lLo ?cLo ?kLo ?aUn ?lUn ?cUn ?kUn ?aEm ?lEm ?cEm ?kEm ?aSt ?lSt ?cSt ?kSt ?aDr ?lDr ?cDr ?kDr ?aIn ?lIn ?cIn ?kIn ?aFa ?lFa ?cFa ?kFa ?aAs ?lAs ?cAs ?kAs ?aLL ?lLL ?cLL ?kLL ?aTl ?lTl ?cTl ?kTl ?aDu ?lDu ?cDu ?kDu ?aLa ?lLa ?cLa ?kLa ?z0 ?z1 ?z2 ?z3 ?z4 ?z5 ?z6 ?z7 ?z8 ?z9 ?z10 ?z11 ?z12
    (case aWh => k_is); (case lWh => k_is); (case cWh => k_is); (case kWh => k_is); (case aWi => k_is); (case lWi => k_is); (case cWi => k_is); (case kWi => k_is); (case aTo => k_is); (case lTo => k_is); (case cTo => k_is); (case kTo => k_is); (case aSp => k_is); (case lSp => k_is); (case cSp => k_is); (case kSp => k_is); (case aIA => k_is); (case lIA => k_is); (case cIA => k_is); (case kIA => k_is); (case aLo => k_is); (case lLo => k_is); (case cLo => k_is); (case kLo => k_is); (case aUn => k_is); (case lUn => k_is); (case cUn => k_is); (case kUn => k_is); (case aEm => k_is); (case lEm => k_is); (case cEm => k_is); (case kEm => k_is); (case aSt => k_is); (case lSt => k_is); (case cSt => k_is); (case kSt => k_is); (case aDr => k_is); (case lDr => k_is); (case cDr => k_is); (case kDr => k_is); (case aIn => k_is); (case lIn => k_is); (case cIn => k_is); (case kIn => k_is); (case aFa => k_is); (case lFa => k_is); (case cFa => k_is); (case kFa => k_is); (case aAs => k_is); (case lAs => k_is); (case cAs => k_is); (case kAs => k_is); (case aLL => k_is); (case lLL => k_is); (case cLL => k_is); (case kLL => k_is); (case aTl => k_is); (case lTl => k_is); (case cTl => k_is); (case kTl => k_is); (case aDu => k_is); (case lDu => k_is); (case cDu => k_is); (case kDu => k_is); (case aLa => k_is); (case lLa => k_is); (case cLa => k_is); (case kLa => k_is); (case z0 => k_is); (case z1 => k_is); (case z2 => k_is); (case z3 => k_is); (case z4 => k_is); (case z5 => k_is); (case z6 => k_is); (case z7 => k_is); (case z8 => k_is); (case z9 => k_is); (case z10 => k_is); (case z11 => k_is); (case z12 => k_is)
