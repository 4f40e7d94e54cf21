import PyProof.Rows.All
import Wide.All
import OpenK.AllK
import Wide.FinOn
import HandS.ForMost
import HandS.Conv
import HandS.Zip
import HandS.Walk
import HandS.IsInst
import HandS.Wide
import HandS.EndBits
import HandS.TupAny
import HandS.TupMul
import HandS.Style
import HandS.Deep
import HandS.NoneIn
import HandS.TupLe
import KE.GoesMore
import KE.GoesZip
import HandS.Dict
import HandS.Codes
import PySem.Challenge.RW_postvote_k03_assignments_judged
set_option Elab.async false
set_option linter.all false
set_option maxRecDepth 100000
namespace Pv
open PySem PySem.Spec PyProof.Rows L2

/-! heaps -/
theorem upNew {H : Hp} {p b : Addr} {o z : HO} (np : H p = none) (h : H b = some z) : upd H p o b = some z := by
  rw [upd_ne (ne_of_none h np)]; exact h
theorem sameNew {H : Hp} {p : Addr} {o : HO} (np : H p = none) : Same H (upd H p o) := fun _ _ e => upNew np e

/-! a def that is called where no repr is under way -/
structure FnG (P : Program) (w : World) (K : PySem.W.Frag) (mg : Str → Option Value) (base : Heap) (k : Nat) (f : Addr) (fd : FuncData) (ps : List Str) (sp : Sp) : Prop where
  cnt : ∀ vs H Q E, sp vs H Q E → vs.length = ps.length
  go : ∀ (A : Around) (outer : List Env) (s : Shared) (H : Hp) (args : Args) (us : List Value) (vs : List V) (Q : VK) (E : XK),
    A.guards = some [] → Room k A → Env0 P w K mg base A outer s H → BindsTo s fd args (ps.zip us) → Vals vs us →
    sp vs H Q E → codeAny (model P w) A (.call (.ref f) args) (CR CX0 outer P w H s Q E) s
section
variable {P : Program} {w : World} {K : PySem.W.Frag} {mg : Str → Option Value} {base : Heap}
theorem okG {x qual : Str} {st : Stmt} {f : Addr} {fd : FuncData} {N ps : List Str} {k : Nat} {sp : Sp}
    (F : Fun K x qual st f fd) (S : FnScope N ps (defScope st)) (cnt : ∀ vs H Q E, sp vs H Q E → vs.length = ps.length)
    (hbody : ∀ (cdv : Value) (A : Around) (outer : List Env) (s : Shared) (H : Hp) (vs : List V) (Q : VK) (E : XK),
      A.guards = some [] → Room k (A.deeper (envOfC qual (defScope st) s.heap.objs.size f cdv)) → sp vs H Q E →
      ∃ t, PSs (cxOf CX0 P w K mg base N qual (defScope st) f cdv A outer s H E).nox (defBody st) t ∧
        t { nx := fun _ H' => Q .non H', rt := Q } (start N vs) H) : FnG P w K mg base (k + 1) f fd ps sp := by
  obtain ⟨oc, od, kV, doc, pm, an, cdv, ct, osl, rfl, lk, hcd⟩ := F.ex
  refine ⟨cnt, ?_⟩
  intro A outer s H args us vs Q E hgd hr e0 hb r hsp
  have hl := cnt vs H Q E hsp
  have kk : ∀ b o, base.get? b = some o → s.heap.get? b = some o := fun b o e => (e0.bs b o e).1
  have KX : K.In s.heap := e0.mod.kin.keeps kk
  have lim : s.heap.NoLimit := e0.mod.nolimit.keeps kk
  refine codeAny_call_function hr.depth (KX _ _ lk) rfl S.co S.gen rfl (PySem.W.codeRec_of KX hcd)
    (hb _ _ _ _ (wpAny_newFunctionEnv_cells S.kind ?_ ?_))
  · rintro ⟨n, v⟩ hy
    rcases S.par n (List.of_mem_zip hy).1 with q | q
    · left; exact q
    · right; exact ⟨q, PySem.W.cellsFrom_some _ _ _ (Or.inl q)⟩
  · intro env he s1 x
    cases he
    refine ⟨lim.keeps x.toInCall.keep, ?_⟩
    apply codeAny_func
    obtain ⟨t, ht0, hq⟩ := hbody cdv A outer s H vs Q E hgd (hr.deeper _) hsp
    have ht := ht0.nox
    have I := inv_start (CX := CX0) (f := f) (qual := qual) (E := E) S hr.hd e0 hl r x
    refine wpAny_mono (ht.run [] s1 (start N vs) H _ I hq) ?_ (fun _ _ z => z)
    intro fl s' hs
    cases fl with
    | ret u => obtain ⟨v, σ', H', J, rv, q⟩ := hs; exact ⟨v, H', J.os, J.bare, J.base, J.hok, rv, q⟩
    | next => obtain ⟨σ', H', J, q⟩ := hs; exact ⟨V.non, H', J.os, J.bare, J.base, J.hok, rfl, q⟩
    | brk => obtain ⟨_, _, _, q⟩ := hs; exact q.elim
    | cont => obtain ⟨_, _, _, q⟩ := hs; exact q.elim
end
section
variable {X : Cx} {k : Nat} {f : Addr} {fd : FuncData} {ps : List Str} {sp : Sp} {x : Str} {p pos : Pos} {e : Expr} {es : List Expr} {t : TA}
theorem pe_callG (F : FnG X.prog X.w X.K X.mg X.base k f fd ps sp) (hgd : X.A.guards = some []) (hr : Room k X.A) (hg : Gl X x)
    (hm : X.mg x = some (.ref f)) (hk : PySem.W.keepIn X.K (.ref f) = true) (hb : Binds X.K fd ps []) (ha : PA X (e :: es) t)
    (hdb : (x == ("__debug__" : Str)) = false := by decide) (he : starEach (e :: es) X.env = (false, eval e X.env) :: starEach es X.env := by rfl)
    (hpl : (backTo pos (starEach es X.env)).any (·.1) = false := by rfl) :
    PE X (.Call (.Name x p) (e :: es) [] pos) (tCall sp [] E0 t) := by
  constructor
  intro pins s σ H Q I h
  refine wpAny_Call_Name_kw (ld_glob I hg hm ?_ hdb)
  refine PySem.W.callWith_K (h₀ := X.base) I.ok.mod.kin hk (thn (ha.run pos pins s σ H _ I h) ?_) he hpl
  rintro us s1 ⟨vs, H1, I1, r, q⟩
  refine ⟨I1.kIn, ?_⟩
  have r2 : Vals (vs ++ []) (us ++ []) := r.append .nil
  have hl : (us ++ []).length = ps.length := by rw [← r2.length]; exact F.cnt _ _ _ _ q
  refine wpAny_call (codeAny_mono (F.go X.A X.stack s1 H1 ⟨us, []⟩ (us ++ []) (vs ++ []) Q E0 hgd hr I1.env0 (hb s1 us I1.kIn hl) r2 q) ?_)
  intro rr s' hq
  match rr, hq with
  | .error e, hq => exact hq.elim
  | .ok (.ret u), hq => exact I1.after hq
  | .ok .next, hq => exact hq.elim
  | .ok .brk, hq => exact hq.elim
  | .ok .cont, hq => exact hq.elim
end
theorem lawG {P : Program} {w : World} {K : PySem.W.Frag} {mg mb : Str → Option Value} {k : Nat} {fa a : Addr} {fd : FuncData} {x : Str} {sp : Sp}
    {s₁ : Shared} {vs : List Value} {ns : List Int} (KX : K.In s₁.heap) (hns : s₁.heap.Ns mainGlobals mg) (hb : s₁.heap.Ns builtinsNs mb)
    (hbb : ∀ x : Str, x ≠ "__name__" → mb x = bootBuiltins x) (hlim : s₁.heap.NoLimit) (hg : s₁.gens = #[])
    (ha : s₁.heap.get? a = some { cls := .type "list", data := .seq vs.toArray }) (hi : IntsAre vs ns) (hl : ns.length ≤ sizeLine)
    (hr : Room k callerA) (F : ∀ base : Heap, K.In base → base.Ns mainGlobals mg → FnG P w K mg base k fa fd [x] sp)
    (hbind : ∀ (s : Shared) (u : Value), BindsTo s fd ⟨[u], []⟩ [(x, u)])
    (hsp : ∀ H : Hp, Only H → SqL K H a (ns.map V.int) → sp [.ref a] H (fun v _ => v = .bl true) E0) :
    codeAny (model P w) callerA (.call (.ref fa) ⟨[.ref a], []⟩)
      (fun r s' => r = .ok (.ret (.bool true)) ∧ OldK s₁.heap s'.heap ∧ s'.os = s₁.os ∧ AllBare s'.gens) s₁ := by
  have rv := vals_ints hi
  have lenV := hi.length
  have core : ∀ H : Hp, Only H → SqL K H a (ns.map V.int) → HOk P w H s₁.heap → (∀ b, H b ≠ none → b = a) → (H a ≠ none → K.lookup a = none) →
      codeAny (model P w) callerA (.call (.ref fa) ⟨[.ref a], []⟩)
        (fun r s' => r = .ok (.ret (.bool true)) ∧ OldK s₁.heap s'.heap ∧ s'.os = s₁.os ∧ AllBare s'.gens) s₁ := by
    intro H hO hS hok hA hK
    have noD : ∀ {b : Addr} {o : Obj} {es : Array DictEntry} {ep : Nat}, s₁.heap.get? b = some o → o.data = .dict es ep → H b = none := by
      intro b o es ep e d
      match q : H b with
      | none => rfl
      | some u =>
        obtain rfl : b = a := hA b (by rw [q]; simp)
        rw [ha] at e
        cases e
        exact absurd d (by intro z; cases z)
    have nsK : ∀ {b : Addr} {m : Str → Option Value}, s₁.heap.Ns b m → (hidT s₁.heap H).Ns b m := by
      rintro b m ⟨o, es, ep, e, d, r⟩
      exact ⟨o, es, ep, hidT_get e (noD e d), d, r⟩
    have hKb : K.In (hidT s₁.heap H) := by
      intro b o e
      refine hidT_get (KX b o e) ?_
      match q : H b with
      | none => rfl
      | some u =>
        obtain rfl : b = a := hA b (by rw [q]; simp)
        rw [hK (by rw [q]; simp)] at e
        cases e
    have hM : Mod K mg (hidT s₁.heap H) := by
      obtain ⟨mc, h1, h2⟩ := hlim
      exact ⟨hKb, nsK hns, ⟨mb, nsK hb, hbb⟩, ⟨mc, nsK h1, h2⟩⟩
    have e0 : Env0 P w K mg (hidT s₁.heap H) callerA [] s₁ H :=
      ⟨rfl, hM, fun b o e => of_hidT e, Nat.le_of_eq (hidT_size _ _), trivial, (fun b hb => by cases hb), hok, .of_eq hg⟩
    refine codeAny_mono ((F _ hKb (nsK hns)).go callerA [] s₁ H ⟨[.ref a], []⟩ [.ref a] [.ref a] _ _ rfl hr e0 (hbind s₁ (.ref a)) (.cons rfl .nil) (hsp H hO hS)) ?_
    intro r s' h
    match r, h with
    | .error e, h => exact h.elim
    | .ok .next, h => exact h.elim
    | .ok .brk, h => exact h.elim
    | .ok .cont, h => exact h.elim
    | .ok (.ret u), h =>
      obtain ⟨v, H', os, bare, un, hok', r', q⟩ := h
      cases (show v = V.bl true from q)
      cases (show u = Value.bool true from r')
      refine ⟨rfl, OldK.of_keep ?_, os, bare⟩
      intro b o e
      match q : H b with
      | none => exact un.keep b o e q (by intro z; cases z) (by intro z; cases z)
      | some u =>
        rcases hO b with z | ⟨ob, xs, z⟩
        · rw [q] at z; cases z
        · obtain ⟨e1, _⟩ := hok b _ z
          obtain ⟨e2, _⟩ := hok' b _ (un.frzs b ob _ z)
          rw [e] at e1
          cases e1
          exact e2
  match hk : K.lookup a with
  | some o =>
    have e := KX a o hk
    rw [ha] at e
    cases e
    refine core (fun _ => none) (fun _ => .inl rfl) (.inr ⟨_, vs.toArray, _, hk, rfl, rfl, rfl, ?_, by simpa using rv⟩) (fun b u z => by cases z) (fun b z => absurd rfl z) (fun z => absurd rfl z)
    rw [List.size_toArray, lenV]; exact hl
  | none =>
    let HA : Hp := fun b => if b = a then some (.frz { cls := .type "list", data := .seq vs.toArray } (.lst (ns.map V.int))) else none
    have at_a : HA a = some (.frz { cls := .type "list", data := .seq vs.toArray } (.lst (ns.map V.int))) := if_pos rfl
    have at_ne : ∀ b, b ≠ a → HA b = none := fun b h => if_neg h
    refine core HA ?_ (.inl (.inr ⟨_, at_a⟩)) ?_ ?_ (fun _ => hk)
    · intro b
      by_cases hb : b = a
      · subst hb; exact .inr ⟨_, _, at_a⟩
      · exact .inl (at_ne b hb)
    · intro b u z
      by_cases hb : b = a
      · subst hb
        rw [at_a] at z
        cases z
        exact ⟨ha, by rw [List.length_map]; exact hl, vs, _, rv, ha⟩
      · rw [at_ne b hb] at z; cases z
    · intro b z
      by_cases hb : b = a
      · exact hb
      · exact absurd (at_ne b hb) z
theorem walkG {l : PySem.W.OpenLaw} {n k : Nat} {q : Program} {loose : List Str} {XP : (Str → Option Value) → Heap → Prop} {YP : World → Heap → Prop}
    {d : DefRec} {K : Params → PySem.W.Frag} {sp : World → Sp} {x : Str} (hn : l.most = some n) (hn2 : n ≤ sizeLine) (hdf : d.params.defaults = [])
    (hr : Room k callerA) (hY : ∀ (w : World) (h : Heap), YP w h → (K w.params).In h)
    (F : ∀ (w : World) (mg : Str → Option Value) (fa : Addr) (h : Heap), (K w.params).In h → h.Ns mainGlobals mg → mg d.name = some (.ref fa) →
      ∃ fd : FuncData, (∀ (s : Shared) (u : Value), BindsTo s fd ⟨[u], []⟩ [(x, u)]) ∧
        ∀ base : Heap, (K w.params).In base → base.Ns mainGlobals mg → FnG l.prog w (K w.params) mg base k fa fd [x] (sp w))
    (hsp : ∀ (w : World) (H : Hp) (a : Addr) (ns : List Int), ns.length ≤ n → (∀ z ∈ ns, Builtin.Int.intBits z ≤ 1048576) → Only H →
      SqL (K w.params) H a (ns.map V.int) → sp w [.ref a] H (fun v _ => v = .bl true) E0) :
    PySem.W.WalkO q loose XP YP l.row.toRowW d [] (fun f vs => PySem.call f vs) := by
  refine Att.attach_callB hn hdf ?_
  intro w s₀ s₁ mg mb fa o pm cd doc a vs ns G Y ho hd hcd hmg hobj hints hlen hbits hg
  have KX := hY w _ Y
  obtain ⟨fd, hb, hF⟩ := F w mg fa _ KX G.T.g hmg
  exact lawG KX G.T.g G.T.b G.T.builtins G.T.nolimit hg hobj hints (Nat.le_trans hlen hn2) hr hF hb (fun H hO hS => hsp w H a ns hlen hbits hO hS)

/-! repr of data -/
theorem call_reprD {X : Cx} (hg : X.A.guards = some []) (hu : X.A.units + 70 < cLine) : CallR X (.builtin "repr")
    (fun xs H Q => ∃ a d, xs = [.ref a] ∧ Dp X.K H (.ref a) d ∧ d.showable = true ∧ d.hasDict = false ∧ d.depth ≤ 60 ∧
      d.shown.length ≤ sizeLine ∧ Q (.str d.shown) H) := by
  intro pins s σ H xs us Q I r h
  obtain ⟨a, d, rfl, hd, h1, h2, h3, h4, q⟩ := h
  obtain ⟨u, rfl, rfl⟩ := vals1 r
  obtain ⟨as, rd⟩ := Dp.reads I d _ _ hd rfl
  exact repr_of_reads' rd h1 (PyData.noDict_hsm h2) hg (by omega) (fun _ _ e => e) (fun h' u tk hk => ⟨.str _, H, I.kept hk, ⟨_, rfl⟩, q⟩) h4
end Pv

namespace Pv
open PySem PySem.Spec PyProof.Rows L2
theorem tup_mul0 (l : Addr) (items : Array Value) (n : Nat) (dd : Option Addr) (sl : Array (Option Value)) (u : Tok) (hi : items.isEmpty = false) :
    Meets (Builtin.«tuple.__mul__» ⟨[.ref l, .int ((0 : Nat) : Int) u], []⟩) (fun _ R s => s.heap.get? l = some { cls := .type "tuple", dict := dd, data := .seq items n, slots := sl } ∧
      R (.ok (.ret (Value.ref s.heap.objs.size))) { s with heap := s.heap.push { cls := Value.type "tuple", data := Data.seq #[] }, toks := s.toks }) :=
  .of_wp fun prog w A R s h => by
    obtain ⟨hp, g, d, tk, os⟩ := s
    obtain ⟨hl, h⟩ := h
    have f1 := AutoSeq1.idx_int
    wp_walk using AutoSeq1.wpAny_loadPart' hl
    repeat (first
      | (refine wpAny_ite_false (decide_eq_false (by simp [hi])) ?_; wp_walk using AutoSeq1.wpAny_loadPart' hl)
      | (refine wpAny_ite_true (decide_eq_true (by simp [hi])) ?_; wp_walk using AutoSeq1.wpAny_loadPart' hl))
    exact ⟨_, rfl, h⟩
theorem tup_mul1 (l : Addr) (items : Array Value) (n : Nat) (dd : Option Addr) (sl : Array (Option Value)) (u : Tok) :
    Meets (Builtin.«tuple.__mul__» ⟨[.ref l, .int ((1 : Nat) : Int) u], []⟩) (fun _ R s => s.heap.get? l = some { cls := .type "tuple", dict := dd, data := .seq items n, slots := sl } ∧
      R (.ok (.ret (Value.ref l))) s) :=
  .of_wp fun prog w A R s h => by
    obtain ⟨hp, g, d, tk, os⟩ := s
    obtain ⟨hl, h⟩ := h
    have f1 := AutoSeq1.idx_int
    wp_walk using AutoSeq1.wpAny_loadPart' hl
    repeat (first
      | (refine wpAny_ite_false (decide_eq_false (by simp)) ?_; wp_walk using AutoSeq1.wpAny_loadPart' hl)
      | (refine wpAny_ite_true (decide_eq_true (by simp)) ?_; wp_walk using AutoSeq1.wpAny_loadPart' hl))
    exact ⟨_, rfl, h⟩
def rRepA (K : PySem.W.Frag) : R2 := fun x y H Q => ∃ (l : Addr) (k : Nat) (xs : List V), x = .ref l ∧ y = .int k ∧ SqT K H l xs ∧ xs ≠ [] ∧ k ≤ 1000 ∧ xs.length ≤ 1000 ∧
    (k = 1 → Q (.ref l) H) ∧ (k ≠ 1 → ∀ p, H p = none → Q (.ref p) (upd H p (.tup (List.replicate k xs).flatten)))
abbrev RC := List V → Hp → VK → Prop
def rLenQ (K : PySem.W.Frag) : RC := fun xs H Q => ∃ (p : Addr) (ys : List V), xs = [.ref p] ∧ (SqL K H p ys ∨ SqT K H p ys) ∧ Q (.int ys.length) H
def rTupQ (K : PySem.W.Frag) : RC := fun xs H Q => ∃ (p : Addr) (ys : List V), xs = [.ref p] ∧ ((SqL K H p ys ∧ ∀ l, H l = none → Q (.ref l) (upd H l (.tup ys))) ∨ (SqT K H p ys ∧ Q (.ref p) H))
section
variable {X : Cx}
theorem call_lenQ : CallR X (.builtin "len") (rLenQ X.K) := call_len_seq
theorem call_tupQ : CallR X (.type "tuple") (rTupQ X.K) := call_tuple_of
/-- o[i] of a list, for o[i] += e -/
theorem get_list : PGet X (fun o i H Q => ∃ (p : Addr) (xs : List V) (j : Nat) (v : V), o = .ref p ∧ i = .int j ∧ SqL X.K H p xs ∧ xs[j]? = some v ∧ Q v H) := by
  intro pins s σ H o i ov iv Q I ro ri h
  obtain ⟨p, xs, j, v, rfl, rfl, hq, he, q⟩ := h
  cases ro
  obtain ⟨t, rfl⟩ := ri
  obtain ⟨its, r, pl, hz⟩ := I.list hq
  obtain ⟨u, eu, ru⟩ := r.get he
  have hj : j < its.length := (List.getElem?_eq_some_iff.mp eu).1
  have hl := r.length
  have hn := line63
  exact wpAny_getItem_list pl.isList (by omega) (by omega) (by simpa using eu) ⟨v, H, I, ru, q⟩
/-- tuple * int -/
theorem op_repA : OpR X (binaryOp .Mult) (rRepA X.K) := by
  intro pins s σ H x y v u Q I rx ry h
  obtain ⟨l, k, xs, rfl, rfl, hT, hne, h2, hz, q1, q2⟩ := h
  by_cases hk2 : 2 ≤ k
  · exact op_repT pins s σ H _ _ v u Q I rx ry ⟨l, k, xs, rfl, rfl, hT, hne, by omega, by omega, hz, by simpa using q2 (by omega)⟩
  cases rx
  obtain ⟨t, rfl⟩ := ry
  obtain ⟨its, r, ⟨⟨cls, dd, data, sl⟩, ho, hc, n, hd⟩, hs⟩ := I.tuple hT
  simp only at hc hd
  subst hc hd
  have hi : its.toArray.isEmpty = false := by
    cases its with
    | nil => exact absurd (List.eq_nil_of_length_eq_zero (by simpa using r.length)) hne
    | cons a b => rfl
  refine wpAny_binaryOp_repeat_ref (T := "tuple") (U := "int") (by decide) ⟨_, ho, rfl⟩ (fun s' => typeIs_int s' k t) noFill_tuple_mul F.fills_int_mul F.slot_int_rmul repeat_tuple F.slot_int_index.lookup
    (call_meets F.slot_int_rmul (typeIs_int s k t) F.entry_int_rmul (F.args_int_rmul_2 _ _) (int_rmul_tuple k t l its.toArray n dd sl)
      ⟨ho, rfl, ⟨_, ho, rfl⟩, ?_⟩)
  obtain hk | hk : k = 0 ∨ k = 1 := by omega
  · subst hk
    refine call_meets F.slot_tuple_mul (show s.TypeIs (.ref l) "tuple" from ⟨_, ho, rfl⟩) F.entry_tuple_mul (F.args_tuple_mul_2 _ _) (tup_mul0 l its.toArray n dd sl t hi) ⟨ho, ?_⟩
    refine ⟨.ref s.heap.objs.size, _, I.laid (t' := s.toks) (o := .tup []) (fun b ob q => Heap.get?_push_of_some _ q) (Nat.le_refl _) ?_, rfl, q2 (by decide) _ (I.hok.fresh (Nat.le_refl _))⟩
    exact ⟨Nat.zero_le _, [], .nil, IsTup.new _ _⟩
  · subst hk
    exact call_meets F.slot_tuple_mul (show s.TypeIs (.ref l) "tuple" from ⟨_, ho, rfl⟩) F.entry_tuple_mul (F.args_tuple_mul_2 _ _) (tup_mul1 l its.toArray n dd sl t) ⟨ho, ⟨.ref l, H, I, rfl, q1 rfl⟩⟩
/-- sum of a tuple of ints -/
theorem call_sumT (hc : X.calm = true) : CallR X (.builtin "sum") (fun xs H Q => ∃ (a : Addr) (ns : List Int), xs = [.ref a] ∧ SqT X.K H a (ns.map V.int) ∧ Q (.int ns.sum) H) := by
  intro pins s σ H xs us Q I r h
  obtain ⟨a, ns, rfl, hT, q⟩ := h
  obtain ⟨u, rfl, rfl⟩ := vals1 r
  obtain ⟨its, rv, ht, hz⟩ := I.tuple hT
  have hi : IntsAre its ns := rv.ints
  obtain ⟨ys, e⟩ := hi.allInts.items
  have hn : numsOf (intItems ys).toList = ns := by rw [← e]; exact hi.numsOf
  rw [nums_intItems] at hn
  rw [e] at ht
  have ht' : s.heap.IsTuple a (intItems ys) := ht
  have hlt : a < s.heap.objs.size := by obtain ⟨_, z, _⟩ := ht; exact Heap.lt_size z
  refine call_sum_walkG (wpAny_pyIter_tuple ht' ?_)
  refine ⟨_, _, _, _, _, _, numAt ys, rfl, Walks.tuple (A := X.A.in1) (I.ok.hd hc) _ a (Nat.ne_of_lt hlt) (intItems ys), ⟨⟨_, Heap.get?_push_size _ rfl, rfl, rfl⟩, ht'.push _⟩, ?_, (fun _ _ => intItems_at), ?_⟩
  · intro b hb
    show b < (s.heap.push _).objs.size
    rw [Heap.size_push]
    simp only [List.mem_cons, List.not_mem_nil, or_false] at hb
    rcases hb with rfl | rfl
    · exact Nat.lt_succ_self _
    · exact Nat.lt_succ_of_lt hlt
  · intro h' tk t' hk
    have eq : preSum (numAt ys) (intItems ys).size = ns.sum := by
      rw [preSum_eq, List.take_of_length_le (by simp [intItems]), hn]
    rw [eq]
    refine ⟨.int _, H, I.kept (t' := tk) (h' := h') ?_, ⟨_, rfl⟩, q⟩
    intro b o eb
    refine hk b o (fun hm => ?_) (Heap.get?_push_of_some _ eb)
    exact absurd (Heap.lt_size eb) ((List.mem_singleton.mp hm) ▸ Nat.lt_irrefl _)
end
theorem walk_zipT {K : PySem.W.Frag} {a b : Addr} {xs ys : List V} {n : Nat} (hn : n = min xs.length ys.length) :
    Walk (RZ.ItzT K a b) n (fun H => SqT K H a xs ∧ SqT K H b ys) (YPair (fun i => xs[i]?) (fun i => ys[i]?)) := by
  subst hn
  constructor
  · rintro i H hi ⟨q1, q2⟩
    have h1 : i < xs.length := by omega
    have h2 : i < ys.length := by omega
    exact ⟨xs, ys, xs[i], ys[i], q1, q2, by simp [h1], by simp [h2]⟩
  · rintro H ⟨q1, q2⟩
    exact ⟨xs, ys, q1, q2, by omega⟩
  · rintro i H v H' _ ⟨q1, q2⟩ ⟨T, x, z, h1, h2, h3, h4, h5⟩
    exact ⟨T, x, z, h1, h2, h3, h4 xs q1, h5 ys q2⟩
end Pv

namespace Pv
open PySem PySem.Spec PyProof.Rows L2

/-! tuples never change -/
def TupK (H H' : Hp) : Prop := ∀ b xs, Rd H b (.tup xs) → Rd H' b (.tup xs)
theorem TupK.refl (H : Hp) : TupK H H := fun _ _ h => h
theorem TupK.trans {H H1 H2 : Hp} (a : TupK H H1) (b : TupK H1 H2) : TupK H H2 := fun c xs h => b c xs (a c xs h)
theorem TupK.of {H H' : Hp} (s : Same H H') : TupK H H' := by
  rintro b xs (h | ⟨o, h⟩)
  · exact .inl (s _ _ h)
  · exact .inr ⟨o, s _ _ h⟩
theorem TupK.new {H : Hp} {p : Addr} {o : HO} (np : H p = none) : TupK H (upd H p o) := .of (sameNew np)
theorem TupK.put {H : Hp} {p : Addr} {o : HO} {ys : List V} (e : H p = some (.lst ys)) : TupK H (upd H p o) := by
  rintro b xs (h | ⟨u, h⟩)
  · exact .inl (by rw [upd_ne (ne_of h e (by intro z; cases z))]; exact h)
  · exact .inr ⟨u, by rw [upd_ne (ne_of h e (by intro z; cases z))]; exact h⟩
theorem TupK.sq {K : PySem.W.Frag} {H H' : Hp} {a : Addr} {xs : List V} (s : TupK H H') (h : SqT K H a xs) : SqT K H' a xs := by
  rcases h with h | h
  · exact .inl (s _ _ h)
  · exact .inr h

mutual
def tupOnly : PyData → Bool
  | .none | .bool _ | .int _ | .str _ => true
  | .tuple xs => tupOnlyAll xs
  | .list _ | .dict _ => false
def tupOnlyAll : List PyData → Bool
  | [] => true
  | x :: xs => tupOnly x && tupOnlyAll xs
end
mutual
theorem TupK.dp {K : PySem.W.Frag} {H H' : Hp} (s : TupK H H') : ∀ (d : PyData) (v : V), tupOnly d = true → Dp K H v d → Dp K H' v d
  | .none, v, _, h => by cases h; exact .non
  | .bool b, v, _, h => by cases h; exact .bl _
  | .int b, v, _, h => by cases h; exact .int _
  | .str b, v, _, h => by cases h; exact .str _
  | .tuple xs, v, t, h => by
    cases h with
    | tup hs ha => exact .tup (s.sq hs) (TupK.dpAll s xs _ (by simpa [tupOnly] using t) ha)
  | .list _, v, t, _ => by simp [tupOnly] at t
  | .dict _, v, t, _ => by simp [tupOnly] at t
theorem TupK.dpAll {K : PySem.W.Frag} {H H' : Hp} (s : TupK H H') : ∀ (ds : List PyData) (vs : List V), tupOnlyAll ds = true → DpAll K H vs ds → DpAll K H' vs ds
  | [], vs, _, h => by cases h; exact .nil
  | d :: ds, vs, t, h => by
    have t' : tupOnly d = true ∧ tupOnlyAll ds = true := by simpa [tupOnlyAll] using t
    cases h with
    | cons h1 h2 => exact .cons (TupK.dp s d _ t'.1 h1) (TupK.dpAll s ds _ t'.2 h2)
end
theorem tupOnlyAll_of {ds : List PyData} (h : ∀ d ∈ ds, tupOnly d = true) : tupOnlyAll ds = true := by
  induction ds with
  | nil => simp [tupOnlyAll]
  | cons d ds ih => simp [tupOnlyAll, h d (by simp), ih (fun e he => h e (by simp [he]))]

/-! data -/
abbrev Gp := List Int × Int
def dI (ns : List Int) : PyData := .tuple (ns.map .int)
def dGrp (g : Gp) : PyData := .tuple [dI g.1, .int g.2]
def dInst (cs : List Int) (gs : List Gp) : PyData := .tuple [dI cs, .tuple (gs.map dGrp)]
def dAsg (rows : List (List Int)) : PyData := .tuple (rows.map dI)
theorem to_ints (ns : List Int) : tupOnlyAll (ns.map PyData.int) = true := tupOnlyAll_of (by intro d hd; obtain ⟨n, _, rfl⟩ := List.mem_map.mp hd; simp [tupOnly])
theorem to_dI (ns : List Int) : tupOnly (dI ns) = true := by simp [dI, tupOnly, to_ints]
theorem to_dGrp (g : Gp) : tupOnly (dGrp g) = true := by simp [dGrp, tupOnly, tupOnlyAll, to_dI]
theorem to_grps (gs : List Gp) : tupOnlyAll (gs.map dGrp) = true := tupOnlyAll_of (by intro d hd; obtain ⟨n, _, rfl⟩ := List.mem_map.mp hd; exact to_dGrp n)
theorem to_rows (rs : List (List Int)) : tupOnlyAll (rs.map dI) = true := tupOnlyAll_of (by intro d hd; obtain ⟨n, _, rfl⟩ := List.mem_map.mp hd; exact to_dI n)
theorem to_dInst (cs : List Int) (gs : List Gp) : tupOnly (dInst cs gs) = true := by simp [dInst, tupOnly, tupOnlyAll, to_dI, to_grps]
theorem to_dAsg (rs : List (List Int)) : tupOnly (dAsg rs) = true := by simp [dAsg, tupOnly, to_rows]

section
variable {K : PySem.W.Frag} {H : Hp}
theorem DpAll.len : ∀ {vs : List V} {ds : List PyData}, DpAll K H vs ds → vs.length = ds.length
  | _, _, .nil => rfl
  | _, _, .cons _ t => by simp [DpAll.len t]
theorem DpAll.ints : ∀ {ns : List Int} {vs : List V}, DpAll K H vs (ns.map PyData.int) → vs = ns.map V.int
  | [], _, h => by cases h; rfl
  | n :: ns, _, h => by
    cases h with
    | cons h1 h2 => cases h1; rw [DpAll.ints h2]; rfl
theorem dp_ints : ∀ (ns : List Int), DpAll K H (ns.map V.int) (ns.map PyData.int)
  | [] => .nil
  | n :: ns => .cons (.int n) (dp_ints ns)
theorem DpAll.at : ∀ {vs : List V} {ds : List PyData} {i : Nat} {v : V}, DpAll K H vs ds → vs[i]? = some v → ∃ d, ds[i]? = some d ∧ Dp K H v d
  | _, _, _, _, .nil, e => by simp at e
  | _, _, 0, _, .cons h _, e => by simp at e; subst e; exact ⟨_, rfl, h⟩
  | _, _, i + 1, v, .cons _ t, e => by
    obtain ⟨d, h1, h2⟩ := DpAll.at (i := i) t (by simpa using e)
    exact ⟨d, by simpa using h1, h2⟩
theorem DpAll.snoc : ∀ {vs : List V} {ds : List PyData} {v : V} {d : PyData}, DpAll K H vs ds → Dp K H v d → DpAll K H (vs ++ [v]) (ds ++ [d])
  | _, _, _, _, .nil, h => .cons h .nil
  | _, _, _, _, .cons h t, h' => .cons h (DpAll.snoc t h')
theorem sq_dI {a : Addr} {ns : List Int} (h : Dp K H (.ref a) (dI ns)) : SqT K H a (ns.map V.int) := by
  cases h with
  | tup hs ha => rw [DpAll.ints ha] at hs; exact hs
theorem dI_sq {a : Addr} {ns : List Int} (h : SqT K H a (ns.map V.int)) : Dp K H (.ref a) (dI ns) := .tup h (dp_ints ns)
theorem dI_ref {v : V} {ns : List Int} (h : Dp K H v (dI ns)) : ∃ a, v = .ref a ∧ SqT K H a (ns.map V.int) := by
  cases h with
  | tup hs ha => rw [DpAll.ints ha] at hs; exact ⟨_, rfl, hs⟩
theorem grp_ref {v : V} {g : Gp} (h : Dp K H v (dGrp g)) : ∃ a p, v = .ref a ∧ SqT K H a [.ref p, .int g.2] ∧ SqT K H p (g.1.map V.int) := by
  cases h with
  | tup hs ha =>
    cases ha with
    | cons h1 h2 =>
      cases h2 with
      | cons h3 h4 =>
        cases h4
        cases h3
        obtain ⟨p, rfl, hp⟩ := dI_ref h1
        exact ⟨_, p, rfl, hs, hp⟩
theorem inst_open {v : V} {cs : List Int} {gs : List Gp} (h : Dp K H v (dInst cs gs)) :
    ∃ a c g xs, v = .ref a ∧ SqT K H a [.ref c, .ref g] ∧ SqT K H c (cs.map V.int) ∧ SqT K H g xs ∧ DpAll K H xs (gs.map dGrp) := by
  cases h with
  | tup hs ha =>
    cases ha with
    | cons h1 h2 =>
      cases h2 with
      | cons h3 h4 =>
        cases h4
        obtain ⟨c, rfl, hc⟩ := dI_ref h1
        cases h3 with
        | tup hg hx => exact ⟨_, c, _, _, rfl, hs, hc, hg, hx⟩
theorem asg_open {v : V} {rs : List (List Int)} (h : Dp K H v (dAsg rs)) : ∃ a xs, v = .ref a ∧ SqT K H a xs ∧ DpAll K H xs (rs.map dI) := by
  cases h with
  | tup hg hx => exact ⟨_, _, rfl, hg, hx⟩
end

/-! what repr wants of data -/
structure Fine (k B : Nat) (d : PyData) : Prop where
  sh : d.showable = true
  nd : d.hasDict = false
  dp : d.depth ≤ k
  ln : d.shown.length ≤ B
theorem Fine.mono {k k' B B' : Nat} {d : PyData} (h : Fine k B d) (hk : k ≤ k') (hB : B ≤ B') : Fine k' B' d := ⟨h.sh, h.nd, Nat.le_trans h.dp hk, Nat.le_trans h.ln hB⟩
theorem fine_int {i : Int} (h : i.natAbs < 10 ^ 20) : Fine 0 25 (.int i) := by
  refine ⟨?_, by simp [PyData.hasDict], by simp [PyData.depth], ?_⟩
  · simp only [PyData.showable, decide_eq_true_eq]
    have : i.natAbs.log2 < 100 := by
      by_cases h0 : i.natAbs = 0
      · rw [h0]; decide
      · exact (Nat.log2_lt h0).mpr (Nat.lt_trans h (by decide))
    omega
  · have e := int_text_length_le10 (k := 20) (by decide) h
    show (Str.ofString (toString i)).length ≤ 25
    rw [PySem.ofString_length]
    omega
theorem fine_all {k B : Nat} : ∀ {xs : List PyData}, (∀ x ∈ xs, Fine k B x) → PyData.showableAll xs = true ∧ PyData.hasDictAll xs = false ∧ PyData.depthAll xs ≤ k ∧ ((PyData.shownAll xs).map (·.length)).sum ≤ xs.length * B ∧ (PyData.shownAll xs).length = xs.length
  | [], _ => by simp [PyData.showableAll, PyData.hasDictAll, PyData.depthAll, PyData.shownAll]
  | x :: xs, h => by
    obtain ⟨h1, h2, h3, h4, h5⟩ := fine_all (xs := xs) (fun y hy => h y (by simp [hy]))
    have hx := h x (by simp)
    refine ⟨by simp [PyData.showableAll, hx.sh, h1], by simp [PyData.hasDictAll, hx.nd, h2], ?_, ?_, ?_⟩
    · simp only [PyData.depthAll]; have := hx.dp; omega
    · simp only [PyData.shownAll, List.map_cons, List.sum_cons, List.length_cons]; have := hx.ln; rw [Nat.succ_mul]; omega
    · simp [PyData.shownAll, h5]
theorem fine_tup {k B n : Nat} {xs : List PyData} (h : ∀ x ∈ xs, Fine k B x) (hn : xs.length ≤ n) : Fine (k + 1) (n * (B + 2) + 3) (.tuple xs) := by
  obtain ⟨h1, h2, h3, h4, h5⟩ := fine_all h
  refine ⟨by simp only [PyData.showable]; exact h1, by simp only [PyData.hasDict]; exact h2, by simp only [PyData.depth]; omega, ?_⟩
  simp only [PyData.shown]
  have e := tupleText_len_le (PyData.shownAll xs)
  rw [h5] at e
  have m : xs.length * (B + 2) ≤ n * (B + 2) := Nat.mul_le_mul_right _ hn
  rw [Nat.mul_add] at m
  omega
theorem fine_lst {k B n : Nat} {xs : List PyData} (h : ∀ x ∈ xs, Fine k B x) (hn : xs.length ≤ n) : Fine (k + 1) (n * (B + 2) + 3) (.list xs) := by
  obtain ⟨h1, h2, h3, h4, h5⟩ := fine_all h
  refine ⟨by simp only [PyData.showable]; exact h1, by simp only [PyData.hasDict]; exact h2, by simp only [PyData.depth]; omega, ?_⟩
  simp only [PyData.shown]
  have e := listText_len_le (PyData.shownAll xs)
  rw [h5] at e
  have m : xs.length * (B + 2) ≤ n * (B + 2) := Nat.mul_le_mul_right _ hn
  rw [Nat.mul_add] at m
  omega
theorem fine_dI {ns : List Int} {n : Nat} (h : ∀ i ∈ ns, i.natAbs < 10 ^ 20) (hn : ns.length ≤ n) : Fine 1 (n * 27 + 3) (dI ns) := by
  refine fine_tup (B := 25) ?_ (by simpa using hn)
  intro d hd
  obtain ⟨i, hi, rfl⟩ := List.mem_map.mp hd
  exact fine_int (h i hi)

/-! the drawing state of the law: a list of the cells, the rests and the turn -/
structure DS (H : Hp) (st c r : Addr) (t : Nat) : Prop where
  hs : H st = some (.lst [.ref c, .ref r, .int t])
  ex : ∃ cells rests : List Int, H c = some (.lst (cells.map V.int)) ∧ H r = some (.lst (rests.map V.int)) ∧ cells.length = rests.length ∧
    0 < cells.length ∧ cells.length ≤ 100 ∧ ∀ x ∈ rests, 0 ≤ x
  n1 : c ≠ r
  n2 : st ≠ c
  n3 : st ≠ r
def Ext (st r : Addr) (H H' : Hp) : Prop := ∀ b o, H b = some o → b ≠ st → b ≠ r → H' b = some o
section
variable {H H1 H2 : Hp} {st c r p : Addr} {t : Nat} {o : HO}
theorem Ext.trans (a : Ext st r H H1) (b : Ext st r H1 H2) : Ext st r H H2 := fun x o h n1 n2 => b x o (a x o h n1 n2) n1 n2
theorem Ext.of (s : Same H H1) : Ext st r H H1 := fun b o h _ _ => s b o h
theorem Ext.tup (d : DS H st c r t) (e : Ext st r H H1) : TupK H H1 := by
  obtain ⟨cells, rests, hc, hr, _⟩ := d.ex
  rintro b xs (h | ⟨u, h⟩)
  · exact .inl (e _ _ h (ne_of h d.hs (by intro z; cases z)) (ne_of h hr (by intro z; cases z)))
  · exact .inr ⟨u, e _ _ h (ne_of h d.hs (by intro z; cases z)) (ne_of h hr (by intro z; cases z))⟩
theorem DS.same (d : DS H st c r t) (s : Same H H1) : DS H1 st c r t := by
  obtain ⟨cells, rests, hc, hr, q⟩ := d.ex
  exact ⟨s _ _ d.hs, ⟨cells, rests, s _ _ hc, s _ _ hr, q⟩, d.n1, d.n2, d.n3⟩
theorem DS.new (d : DS H st c r t) (np : H p = none) : DS (upd H p o) st c r t := d.same (sameNew np)
theorem DS.put (d : DS H st c r t) (h1 : p ≠ st) (h2 : p ≠ c) (h3 : p ≠ r) : DS (upd H p o) st c r t := by
  obtain ⟨cells, rests, hc, hr, q⟩ := d.ex
  exact ⟨by rw [upd_ne h1.symm]; exact d.hs, ⟨cells, rests, by rw [upd_ne h2.symm]; exact hc, by rw [upd_ne h3.symm]; exact hr, q⟩, d.n1, d.n2, d.n3⟩
/-- an address that was free while the state stood is none of its own -/
theorem DS.off (d : DS H st c r t) (np : H p = none) : p ≠ st ∧ p ≠ c ∧ p ≠ r := by
  obtain ⟨cells, rests, hc, hr, q⟩ := d.ex
  exact ⟨(ne_of_none d.hs np).symm, (ne_of_none hc np).symm, (ne_of_none hr np).symm⟩
end
end Pv

namespace Pv
open PySem PySem.Spec PyProof.Rows L2
/-! enumerate of a tuple -/
theorem enumT_new (l : Addr) (items : Array Value) (n : Nat) (dct : Option Addr) (sl : Array (Option Value)) :
    Meets (Builtin.«enumerate.__new__» ⟨[.type "enumerate", .ref l], []⟩) (fun _ R s =>
      s.heap.get? l = some { cls := .type "tuple", dict := dct, data := .seq items n, slots := sl } ∧
      R (.ok (.ret (.ref (s.heap.push { cls := .type "tuple_iterator", data := .fields #[.ref l, .int 0 0] }).objs.size)))
        { s with heap := Heap.push (s.heap.push { cls := .type "tuple_iterator", data := .fields #[.ref l, .int 0 0] }) { cls := .type "enumerate", data := .fields #[.none, .bool false, .ref s.heap.objs.size, rawInt 0, .none, .none] } }) :=
  .of_wp fun prog w A R s h => by
    obtain ⟨hp, g, d, tk, os⟩ := s
    obtain ⟨hl, h⟩ := h
    have hsub := sub_enumerate
    have hL : Heap.IsTuple (Shared.heap ⟨hp, g, d, tk, os⟩) l items := ⟨_, hl, rfl, n, rfl⟩
    wp_walk using AutoSeq1.wpAny_loadPart' hl
    refine wpAny_stack_any fun st => wpAny_pure ?_
    split
    · rename_i c _ _ _ _ _
      cases (c == Value.type "enumerate") <;>
        (wp_walk using AutoSeq1.wpAny_loadPart' hl, wpAny_pyIter_tuple hL; exact ⟨_, rfl, h⟩)
    · wp_walk using AutoSeq1.wpAny_loadPart' hl, wpAny_pyIter_tuple hL
      exact ⟨_, rfl, h⟩
theorem call_enumT {prog : Program} {w : World} {A : Around} {E : Value → Shared → Prop} {s : Shared} {l : Addr} {items : Array Value} {Q : Value → Shared → Prop} (hL : s.heap.IsTuple l items)
    (h : ∀ h', IsEnum h' (s.heap.objs.size + 1) s.heap.objs.size 0 .none → h'.IsTupleIter s.heap.objs.size l 0 →
      (∀ b o, s.heap.get? b = some o → h'.get? b = some o) → Q (.ref (s.heap.objs.size + 1)) { s with heap := h' }) :
    wpAny (model prog w) A (call (.type "enumerate") [.ref l]) Q E s := by
  obtain ⟨⟨c, dct, dt, sl⟩, hl, hc, n, hd⟩ := hL
  simp only at hc hd
  subst hc hd
  refine callType_new F.called_enumerate (by decide) (F.typeCall_enumerate_1 _) (F.newCall_enumerate_1 _) (fun obj => F.args_object_init_2 obj _) F.entry_enumerate_new (enumT_new l items n dct sl) ⟨hl, ?_⟩
  have hz : (s.heap.push { cls := .type "tuple_iterator", data := .fields #[.ref l, .int 0 0] }).objs.size = s.heap.objs.size + 1 := Heap.size_push ..
  show _ ∧ _
  rw [hz]
  have ge : IsEnum (Heap.push (s.heap.push { cls := .type "tuple_iterator", data := .fields #[.ref l, .int 0 0] }) { cls := .type "enumerate", data := .fields #[.none, .bool false, .ref s.heap.objs.size, rawInt 0, .none, .none] }) (s.heap.objs.size + 1) s.heap.objs.size 0 .none := by
    rw [← hz]
    exact Heap.get?_push_size _ rfl
  exact ⟨⟨_, ge, rfl⟩, h _ ge ⟨_, Heap.get?_push_of_some _ (Heap.get?_push_size _ rfl), rfl, rfl⟩ fun b o x => Heap.get?_push_of_some _ (Heap.get?_push_of_some _ x)⟩
def IteT (K : PySem.W.Frag) (a : Addr) : It :=
  ⟨fun i H => ∃ (xs : List V) (x : V), SqT K H a xs ∧ xs[i]? = some x,
   fun i H v H' => ∃ T x, v = .ref T ∧ H T = none ∧ H' = upd H T (.tup [.int (i : Nat), x]) ∧ ∀ xs, SqT K H a xs → xs[i]? = some x,
   fun i H => ∃ xs : List V, SqT K H a xs ∧ xs.length = i⟩
theorem tupLt {h : Heap} {a : Addr} {its : Array Value} (p : IsTup h a its) : a < h.objs.size := by obtain ⟨_, e, _⟩ := p; exact Heap.lt_size e
theorem turn_enumT {P : Program} {w : World} {K : PySem.W.Frag} {elts : List Expr} {kk : Nat} {tpos : Pos} (a e it : Addr) :
    Turn P w K (.Tuple elts kk tpos) (IteT K a) [e, it] e (fun i h => (∃ old, IsEnum h e it ((i : Nat) : Int) old) ∧ h.IsTupleIter it a i ∧ e ≠ it) where
  mem := by simp
  obj := by
    rintro i h ⟨⟨old, he⟩, ⟨o, ho, hc, hd⟩, _⟩ b hb
    simp only [List.mem_cons, List.not_mem_nil, or_false] at hb
    rcases hb with rfl | rfl
    · exact ⟨_, he, fun v q => nomatch q⟩
    · exact ⟨o, ho, fun v q => by rw [hd] at q; cases q⟩
  keep := by
    rintro i h h' ⟨⟨old, he⟩, hi, hne⟩ k
    exact ⟨⟨old, k e (by simp) _ he⟩, hi.at fun o q => k it (by simp) o q, hne⟩
  item := by
    intro X hP hw hK hc i pins s σ H E I hf st hg
    subst hP hw hK
    obtain ⟨⟨old, he⟩, hit, hne⟩ := st
    obtain ⟨xs, x, hq, hx⟩ := hg
    obtain ⟨its, rv, p, hz⟩ := I.tuple hq
    obtain ⟨u, hu, ru⟩ := rv.get hx
    have hel : e < s.heap.objs.size := Heap.lt_size he
    have hil : it < s.heap.objs.size := by obtain ⟨_, q, _⟩ := hit; exact Heap.lt_size q
    have nea : e ≠ a := by
      rintro rfl
      obtain ⟨o, ho, hcl, _⟩ := p
      rw [he] at ho
      cases ho
      injection hcl with hcl
      exact absurd hcl (by decide)
    have nia : a ≠ it := by
      rintro rfl
      obtain ⟨o, ho, hcl, _⟩ := p
      obtain ⟨o2, ho2, hcl2, _⟩ := hit
      rw [ho] at ho2
      cases ho2
      rw [hcl] at hcl2
      injection hcl2 with hcl2
      exact absurd hcl2 (by decide)
    have hlt : i < its.toArray.size := by have := (List.getElem?_eq_some_iff.mp hu).1; simpa using this
    refine wpAny_pyNext_enum_itemD (Draws.tuple (A := X.A.in1) (I.ok.hd hc) it a nia its.toArray) he ⟨hit, p⟩ hlt hne (by simp [hne, nea]) ?_
    intro u' h' tk hu' ho st' hT hsz hk
    have hu2 : its.toArray[i]? = some u' := hu'
    have : u' = u := by
      have h3 : its.toArray[i]? = some u := by simpa using hu
      rw [h3] at hu2
      exact (Option.some.inj hu2).symm
    subst this
    refine ⟨_, rfl, wpAny_letOwnedTupleGo_enum (s := { s with heap := h', toks := tk + 1 }) ho fun h'' he' sb => ?_⟩
    have hT2 : h''.get? s.heap.objs.size = some { cls := .type "tuple", data := .seq #[.int i tk, u'] } := (sb.2 _ (Nat.ne_of_gt hel)).trans hT
    have new : ObjOk X.prog X.w (upd H s.heap.objs.size (.tup [.int (i : Nat), x])) h'' s.heap.objs.size (.tup [.int (i : Nat), x]) :=
      ⟨by show 2 ≤ sizeLine; decide, [.int i tk, u'], .cons ⟨_, rfl⟩ (.cons ru .nil), ⟨_, hT2, rfl, _, rfl⟩⟩
    have kk : ∀ b ob, b ∉ [e, it] → s.heap.get? b = some ob → h''.get? b = some ob := by
      intro b ob hb q
      have h1 : b ≠ e := fun z => hb (by simp [z])
      have h2 : b ≠ it := fun z => hb (by simp [z])
      exact (sb.2 b h1).trans (hk b ob h1 h2 q)
    have I1 : Inv X pins σ (upd H s.heap.objs.size (.tup [.int (i : Nat), x])) { s with heap := h'', toks := tk + 1 } :=
      I.turnedNew (ch := [e, it]) kk hf (Nat.le_refl _) new
    refine ⟨.ref s.heap.objs.size, _, I1, rfl, ⟨_, x, rfl, I.hok.fresh (Nat.le_refl _), rfl, fun ys hy => by rw [I.tuple_inj hy hq]; exact hx⟩, ⟨⟨u', ?_⟩, st'.1.at fun o q => (sb.2 it (Ne.symm hne)).trans q, hne⟩, fun b hb => ?_⟩
    · rw [show ((i + 1 : Nat) : Int) = (i : Int) + 1 by omega]; exact he'
    · have hb' : b < s.heap.objs.size := by
        simp only [List.mem_cons, List.not_mem_nil, or_false] at hb
        rcases hb with rfl | rfl <;> assumption
      rw [upd_ne (Nat.ne_of_lt hb')]
      exact (hf b hb).1
  done := by
    intro X hP hw hK hc i pins s σ H E I hf st hg
    subst hP hw hK
    obtain ⟨⟨old, he⟩, hit, hne⟩ := st
    obtain ⟨xs, hq, hx⟩ := hg
    obtain ⟨its, rv, p, hz⟩ := I.tuple hq
    obtain ⟨f0, f1, f2, f3, f4, f5⟩ := hf it (by simp)
    have hl := rv.length
    have nia : a ≠ it := by
      rintro rfl
      obtain ⟨o, ho, hcl, _⟩ := p
      obtain ⟨o2, ho2, hcl2, _⟩ := hit
      rw [ho] at ho2
      cases ho2
      rw [hcl] at hcl2
      injection hcl2 with hcl2
      exact absurd hcl2 (by decide)
    have hi : i = its.toArray.size := by rw [List.size_toArray]; omega
    refine wpAny_pyNext_enum_endD (Draws.tuple (A := X.A.in1) (I.ok.hd hc) it a nia its.toArray) he (by rw [← hi]; exact ⟨hit, p⟩) fun h' eb => ⟨rfl, I.turned (t' := s.toks) (fun b o hb q => eb b o hb q) f0 f1 f3 f4 f5⟩
  self := by
    rintro A i s Q E ⟨⟨_, he⟩, _⟩ h
    exact wpAny_pyIter_enum he h
def iEnumT (K : PySem.W.Frag) (ta : TA) : TI := fun σ H R => ta σ H fun vs H1 => ∃ a xs, vs = [.ref a] ∧ SqT K H1 a xs ∧ R (IteT K a) H1
theorem pi_enumT {X : Cx} {e : Expr} {ta : TA} {p pos tpos : Pos} {elts : List Expr} {kk : Nat} (hg : Gl X "enumerate") (hm : X.mg "enumerate" = none) (ha : PA X [e] ta)
    (hs : starEach [e] X.env = [(false, eval e X.env)] := by rfl) : PI X (.Tuple elts kk tpos) (.Call (.Name "enumerate" p) [e] [] pos) (iEnumT X.K ta) := by
  constructor
  intro pins s σ H R I h
  refine Call_ (ld_blt I hg hm boot_enumerate (PyProof.Rows.callWith_type1 (thn (ha.run pos pins s σ H _ I h) ?_) hs rfl))
  rintro us s1 ⟨vs, H1, I1, r1, a, xs, rfl, hq, q⟩
  obtain ⟨u, rfl, rfl⟩ := vals1 r1
  obtain ⟨its, rv, p', hz⟩ := I1.tuple hq
  refine call_enumT (show s1.heap.IsTuple a its.toArray from p') fun h' he hit hk => wpAny_pyIter_enum he ?_
  have I2 : Inv X pins σ H1 { s1 with heap := h' } := I1.kept (t' := s1.toks) hk
  refine ⟨s1.heap.objs.size + 1, [s1.heap.objs.size + 1, s1.heap.objs.size], _, _, H1, rfl, I2, turn_enumT a (s1.heap.objs.size + 1) s1.heap.objs.size, ⟨⟨.none, he⟩, hit, Nat.succ_ne_self _⟩, ?_, q⟩
  intro b hb
  have hle : s1.heap.objs.size ≤ b := by
    simp only [List.mem_cons, List.not_mem_nil, or_false] at hb
    rcases hb with rfl | rfl <;> omega
  exact I1.fpOk hle (I1.hok.fresh hle)
theorem walk_enumT {K : PySem.W.Frag} {a : Addr} {xs : List V} : Walk (IteT K a) xs.length (fun H => SqT K H a xs) (YPair (fun i => some (.int (i : Nat))) (fun i => xs[i]?)) := by
  constructor
  · intro i H hi q
    exact ⟨xs, xs[i], q, by simp [hi]⟩
  · intro H q
    exact ⟨xs, q, rfl⟩
  · rintro i H v H' _ q ⟨T, x, h1, h2, h3, h4⟩
    exact ⟨T, _, x, h1, h2, h3, rfl, h4 xs q⟩
/-! zip of a list and a tuple -/
abbrev zm1 (h : Heap) (l1 : Addr) : Heap := h.push { cls := .type "list_iterator", data := .fields #[.ref l1, .int 0 0] }
abbrev zm2 (h : Heap) (l1 l2 : Addr) : Heap := (zm1 h l1).push { cls := .type "tuple_iterator", data := .fields #[.ref l2, .int 0 0] }
abbrev zm3 (h : Heap) (l1 l2 : Addr) : Heap := (zm2 h l1 l2).push { cls := .type "tuple", data := .seq #[.ref h.objs.size, .ref (zm1 h l1).objs.size] }
abbrev zm4 (h : Heap) (l1 l2 : Addr) : Heap := (zm3 h l1 l2).push { cls := .type "tuple", data := .seq #[.none, .none] }
abbrev zm5 (h : Heap) (l1 l2 : Addr) : Heap := (zm4 h l1 l2).push { cls := .type "zip", data := .fields #[.none, .bool false, .bool false, .ref (zm2 h l1 l2).objs.size, .ref (zm3 h l1 l2).objs.size] }
theorem zipM_new (l1 l2 : Addr) (xs ys : Array Value) :
    Meets (Builtin.«zip.__new__» ⟨[.type "zip", .ref l1, .ref l2], []⟩) (fun _ R s => s.heap.IsList l1 xs ∧ s.heap.IsTuple l2 ys ∧
      R (.ok (.ret (.ref (zm4 s.heap l1 l2).objs.size))) { s with heap := zm5 s.heap l1 l2 }) :=
  .of_wp fun prog w A R s h => by
    obtain ⟨hp, g, d, tk, os⟩ := s
    obtain ⟨hl1, hl2, h⟩ := h
    have hsub := sub_zip
    have hL1 : Heap.IsList (Shared.heap ⟨hp, g, d, tk, os⟩) l1 xs := hl1
    have hL2 : Heap.IsTuple (Shared.heap ⟨zm1 hp l1, g, d, tk, os⟩) l2 ys := Heap.IsTuple.push hl2 _
    wp_walk using wpAny_pyIter_list hL1, wpAny_pyIter_tuple hL2
    exact ⟨_, rfl, h⟩
theorem call_zipM {prog : Program} {w : World} {A : Around} {E : Value → Shared → Prop} {s : Shared} {l1 l2 : Addr} {xs ys : Array Value} {Q : Value → Shared → Prop} (hl1 : s.heap.IsList l1 xs) (hl2 : s.heap.IsTuple l2 ys)
    (h : ∀ h', IsZip h' (s.heap.objs.size + 4) (s.heap.objs.size + 2) (s.heap.objs.size + 3) .none → IsPair h' (s.heap.objs.size + 2) (.ref s.heap.objs.size) (.ref (s.heap.objs.size + 1)) →
      IsPair h' (s.heap.objs.size + 3) .none .none → h'.IsListIter s.heap.objs.size l1 0 → h'.IsTupleIter (s.heap.objs.size + 1) l2 0 →
      (∀ c o, s.heap.get? c = some o → h'.get? c = some o) → Q (.ref (s.heap.objs.size + 4)) { s with heap := h' }) :
    wpAny (model prog w) A (call (.type "zip") [.ref l1, .ref l2]) Q E s := by
  refine callType_new F.called_zip (by decide) (F.typeCall_zip_2 _ _) (F.newCall_zip_2 _ _) (fun obj => F.args_object_init_3 obj _ _) F.entry_zip_new (zipM_new l1 l2 xs ys) ⟨hl1, hl2, ?_⟩
  have z1 : (zm1 s.heap l1).objs.size = s.heap.objs.size + 1 := Heap.size_push ..
  have z2 : (zm2 s.heap l1 l2).objs.size = s.heap.objs.size + 2 := by rw [Heap.size_push, z1]
  have z3 : (zm3 s.heap l1 l2).objs.size = s.heap.objs.size + 3 := by rw [Heap.size_push, z2]
  have z4 : (zm4 s.heap l1 l2).objs.size = s.heap.objs.size + 4 := by rw [Heap.size_push, z3]
  have g5 : (zm5 s.heap l1 l2).get? (zm4 s.heap l1 l2).objs.size = some _ := Heap.get?_push_size _ rfl
  have g4 : (zm5 s.heap l1 l2).get? (zm3 s.heap l1 l2).objs.size = some _ := Heap.get?_push_of_some _ (Heap.get?_push_size _ rfl)
  have g3 : (zm5 s.heap l1 l2).get? (zm2 s.heap l1 l2).objs.size = some _ := Heap.get?_push_of_some _ (Heap.get?_push_of_some _ (Heap.get?_push_size _ rfl))
  have g2 : (zm5 s.heap l1 l2).get? (zm1 s.heap l1).objs.size = some _ := Heap.get?_push_of_some _ (Heap.get?_push_of_some _ (Heap.get?_push_of_some _ (Heap.get?_push_size _ rfl)))
  have g1 : (zm5 s.heap l1 l2).get? s.heap.objs.size = some _ := Heap.get?_push_of_some _ (Heap.get?_push_of_some _ (Heap.get?_push_of_some _ (Heap.get?_push_of_some _ (Heap.get?_push_size _ rfl))))
  show _ ∧ _
  rw [z2, z3, z4] at g5
  rw [z1, z2] at g3
  rw [z3] at g4
  rw [z1] at g2
  rw [z4]
  refine ⟨⟨_, g5, rfl⟩, h _ g5 g3 g4 ⟨_, g1, rfl, rfl⟩ ⟨_, g2, rfl, rfl⟩ ?_⟩
  intro c o x
  exact Heap.get?_push_of_some _ (Heap.get?_push_of_some _ (Heap.get?_push_of_some _ (Heap.get?_push_of_some _ (Heap.get?_push_of_some _ x))))
def ItzM (K : PySem.W.Frag) (a b : Addr) : It :=
  ⟨fun i H => ∃ (xs ys : List V) (x y : V), SqL K H a xs ∧ SqT K H b ys ∧ xs[i]? = some x ∧ ys[i]? = some y,
   fun i H v H' => ∃ T x y, v = .ref T ∧ H T = none ∧ H' = upd H T (.tup [x, y]) ∧ (∀ xs, SqL K H a xs → xs[i]? = some x) ∧ ∀ ys, SqT K H b ys → ys[i]? = some y,
   fun i H => ∃ xs ys : List V, SqL K H a xs ∧ SqT K H b ys ∧ min xs.length ys.length = i⟩
theorem sepM {z TI TO i1 i2 a b : Addr} (D : ZipApart z TI TO i1 i2 a b) : ZipSep2 z TI TO i1 i2 [i1, a] [i2, b] := by
  refine ⟨D.TIz, D.TOz, D.TITO, D.TIi1, by simp, ?_, ?_, D.TIi2, by simp, ?_, ?_, ?_, ?_⟩ <;>
    simp only [List.mem_cons, List.not_mem_nil, or_false, not_or]
  · exact ⟨D.i1z.symm, D.l1z.symm⟩
  · exact ⟨D.TOi1, D.l1TO.symm⟩
  · exact ⟨D.i2z.symm, D.l2z.symm⟩
  · exact ⟨D.TOi2, D.l2TO.symm⟩
  · exact ⟨D.i12, D.l2i1.symm⟩
  · exact ⟨D.i12.symm, D.l1i2.symm⟩
theorem turn_zipM {P : Program} {w : World} {K : PySem.W.Frag} {elts : List Expr} {kk : Nat} {tpos : Pos} {a b z TI TO i1 i2 : Addr} (D : ZipApart z TI TO i1 i2 a b) :
    Turn P w K (.Tuple elts kk tpos) (ItzM K a b) [z, TI, TO, i1, i2] z
      (fun i h => IsZip h z TI TO .none ∧ IsPair h TI (.ref i1) (.ref i2) ∧ (∃ x y, IsPair h TO x y) ∧ h.IsListIter i1 a i ∧ h.IsTupleIter i2 b i) where
  mem := by simp
  obj := by
    rintro i h ⟨hz, hTI, ⟨x, y, hTO⟩, ⟨o1, e1, _, d1⟩, ⟨o2, e2, _, d2⟩⟩ c hc
    simp only [List.mem_cons, List.not_mem_nil, or_false] at hc
    rcases hc with rfl | rfl | rfl | rfl | rfl
    · exact ⟨_, hz, fun v q => nomatch q⟩
    · exact ⟨_, hTI, fun v q => nomatch q⟩
    · exact ⟨_, hTO, fun v q => nomatch q⟩
    · exact ⟨o1, e1, fun v q => by rw [d1] at q; cases q⟩
    · exact ⟨o2, e2, fun v q => by rw [d2] at q; cases q⟩
  keep := by
    rintro i h h' ⟨hz, hTI, ⟨x, y, hTO⟩, h1, h2⟩ k
    exact ⟨k z (by simp) _ hz, k TI (by simp) _ hTI, ⟨x, y, k TO (by simp) _ hTO⟩, h1.at fun o q => k i1 (by simp) o q, h2.at fun o q => k i2 (by simp) o q⟩
  item := by
    intro X hP hw hK hc i pins s σ H E I hf st hg
    subst hP hw hK
    obtain ⟨hz, hTI, ⟨x0, y0, hTO⟩, h1, h2⟩ := st
    obtain ⟨xs, ys, x, y, hqx, hqy, hx, hy⟩ := hg
    obtain ⟨its, rv, p, _⟩ := I.list hqx
    obtain ⟨its2, rv2, p2, _⟩ := I.tuple hqy
    obtain ⟨u, hu, ru⟩ := rv.get hx
    obtain ⟨u2, hu2, ru2⟩ := rv2.get hy
    have hzl : z < s.heap.objs.size := Heap.lt_size hz
    have hl1 : i < its.toArray.size := by have := (List.getElem?_eq_some_iff.mp hu).1; simpa using this
    have hl2 : i < its2.toArray.size := by have := (List.getElem?_eq_some_iff.mp hu2).1; simpa using this
    refine wpAny_pyNext_zipD2_item (sepM D) (Draws.list (A := X.A.in1) (I.ok.hd hc) i1 a D.l1i1 its.toArray) (Draws.tuple (A := X.A.in1) (I.ok.hd hc) i2 b D.l2i2 its2.toArray) hz hTI hTO ⟨h1, p.isList⟩ ⟨h2, p2⟩ hl1 hl2 ?_
    intro v1 v2 h' tk hv1 hv2 z' TO' st1 st2 hT hsz hk
    have e1 : v1 = u := by
      have h3 : its.toArray[i]? = some u := by simpa using hu
      rw [show its.toArray[i]? = some v1 from hv1] at h3
      exact Option.some.inj h3
    have e2 : v2 = u2 := by
      have h3 : its2.toArray[i]? = some u2 := by simpa using hu2
      rw [show its2.toArray[i]? = some v2 from hv2] at h3
      exact Option.some.inj h3
    subst e1 e2
    refine ⟨_, rfl, wpAny_letOwnedTupleGo_zip (s := { s with heap := h', toks := tk }) z' fun h'' z'' sb => ?_⟩
    have hT2 : h''.get? s.heap.objs.size = some { cls := .type "tuple", data := .seq #[v1, v2] } := (sb.2 _ (Nat.ne_of_gt hzl)).trans hT
    have new : ObjOk X.prog X.w (upd H s.heap.objs.size (.tup [x, y])) h'' s.heap.objs.size (.tup [x, y]) :=
      ⟨by show 2 ≤ sizeLine; decide, [v1, v2], .cons ru (.cons ru2 .nil), ⟨_, hT2, rfl, _, rfl⟩⟩
    have kk : ∀ c o, c ∉ [z, TI, TO, i1, i2] → s.heap.get? c = some o → h''.get? c = some o := by
      intro c o hb q
      simp only [List.mem_cons, List.not_mem_nil, or_false, not_or] at hb
      exact (sb.2 c hb.1).trans (hk c o hb.1 hb.2.2.1 hb.2.2.2.1 hb.2.2.2.2 q)
    have I1 : Inv X pins σ (upd H s.heap.objs.size (.tup [x, y])) { s with heap := h'', toks := tk } :=
      I.turnedNew (t' := tk) (ch := [z, TI, TO, i1, i2]) kk hf (Nat.le_refl _) new
    refine ⟨.ref s.heap.objs.size, _, I1, rfl, ⟨_, x, y, rfl, I.hok.fresh (Nat.le_refl _), rfl, fun l hl => by rw [I.list_inj hl hqx]; exact hx, fun l hl => by rw [I.tuple_inj hl hqy]; exact hy⟩, ⟨z'', ?_, ⟨v1, v2, ?_⟩, ?_, ?_⟩, ?_⟩
    · exact (sb.2 _ D.TIz).trans (hk _ _ D.TIz D.TITO D.TIi1 D.TIi2 hTI)
    · exact (sb.2 _ D.TOz).trans TO'
    · exact st1.1.at fun o q => (sb.2 _ D.i1z).trans q
    · exact st2.1.at fun o q => (sb.2 _ D.i2z).trans q
    · intro c hcm
      have hlt : c < s.heap.objs.size := by
        simp only [List.mem_cons, List.not_mem_nil, or_false] at hcm
        rcases hcm with rfl | rfl | rfl | rfl | rfl
        · exact hzl
        · exact Heap.lt_size hTI
        · exact Heap.lt_size hTO
        · obtain ⟨_, e1, _⟩ := h1; exact Heap.lt_size e1
        · obtain ⟨_, e2, _⟩ := h2; exact Heap.lt_size e2
      rw [upd_ne (Nat.ne_of_lt hlt)]
      exact (hf c hcm).1
  done := by
    intro X hP hw hK hc i pins s σ H E I hf st hg
    subst hP hw hK
    obtain ⟨hz, hTI, ⟨x0, y0, hTO⟩, h1, h2⟩ := st
    obtain ⟨xs, ys, hqx, hqy, hend⟩ := hg
    obtain ⟨its, rv, p, _⟩ := I.list hqx
    obtain ⟨its2, rv2, p2, _⟩ := I.tuple hqy
    have l1 := rv.length
    have l2 := rv2.length
    refine wpAny_pyNext_zipD2_end (i := i) (sepM D) (Draws.list (A := X.A.in1) (I.ok.hd hc) i1 a D.l1i1 its.toArray) (Draws.tuple (A := X.A.in1) (I.ok.hd hc) i2 b D.l2i2 its2.toArray) hz hTI hTO ⟨h1, p.isList⟩ ⟨h2, p2⟩ (by simp; omega) (by simp; omega) (by simp; omega) ?_
    intro h' tk hk
    refine ⟨rfl, I.turnedL (t' := tk) (ch := [z, TI, TO, i1, i2]) ?_ hf⟩
    intro c o hb q
    simp only [List.mem_cons, List.not_mem_nil, or_false, not_or] at hb
    exact hk c o hb.1 hb.2.2.1 hb.2.2.2.1 hb.2.2.2.2 q
  self := fun A i s Q E st h => wpAny_pyIter_zip st.1 h
def iZipM (K : PySem.W.Frag) (ta : TA) : TI := fun σ H R => ta σ H fun vs H1 => ∃ a b xs ys, vs = [.ref a, .ref b] ∧ SqL K H1 a xs ∧ SqT K H1 b ys ∧ R (ItzM K a b) H1
theorem pi_zipM {X : Cx} {e e2 : Expr} {ta : TA} {p pos tpos : Pos} {elts : List Expr} {kk : Nat} (hg : Gl X "zip") (hm : X.mg "zip" = none) (ha : PA X [e, e2] ta)
    (hs : starEach [e, e2] X.env = (false, eval e X.env) :: starEach [e2] X.env := by rfl) (hpl : (backTo pos (starEach [e2] X.env)).any (·.1) = false := by rfl) :
    PI X (.Tuple elts kk tpos) (.Call (.Name "zip" p) [e, e2] [] pos) (iZipM X.K ta) := by
  constructor
  intro pins s σ H R I h
  refine Call_ (ld_blt I hg hm PyProof.Rows.boot_zip (PyProof.Rows.callWith_type1 (thn (ha.run pos pins s σ H _ I h) ?_) hs hpl))
  rintro us s1 ⟨vs, H1, I1, r1, a, b, xs, ys, rfl, hqx, hqy, q⟩
  obtain ⟨u, v, rfl, rfl, rfl⟩ := vals2 r1
  obtain ⟨its, rv, p1, _⟩ := I1.list hqx
  obtain ⟨its2, rv2, p2, _⟩ := I1.tuple hqy
  refine call_zipM p1.isList (show s1.heap.IsTuple b its2.toArray from p2) fun h' hz hTI hTO h1 h2 hk => wpAny_pyIter_zip hz ?_
  have I2 : Inv X pins σ H1 { s1 with heap := h' } := I1.kept (t' := s1.toks) hk
  refine ⟨s1.heap.objs.size + 4, [s1.heap.objs.size + 4, s1.heap.objs.size + 2, s1.heap.objs.size + 3, s1.heap.objs.size, s1.heap.objs.size + 1], _, _, H1, rfl, I2,
    turn_zipM (PySem.W.ktu_apart s1.heap.objs.size a b p1.lt (tupLt p2)), ⟨hz, hTI, ⟨_, _, hTO⟩, h1, h2⟩, ?_, q⟩
  intro c hcm
  have hle : s1.heap.objs.size ≤ c := by
    simp only [List.mem_cons, List.not_mem_nil, or_false] at hcm
    rcases hcm with rfl | rfl | rfl | rfl | rfl <;> omega
  exact I1.fpOk hle (I1.hok.fresh hle)
theorem walk_zipM {K : PySem.W.Frag} {a b : Addr} {xs ys : List V} {n : Nat} (hn : n = min xs.length ys.length) :
    Walk (ItzM K a b) n (fun H => SqL K H a xs ∧ SqT K H b ys) (YPair (fun i => xs[i]?) (fun i => ys[i]?)) := by
  subst hn
  constructor
  · rintro i H hi ⟨q1, q2⟩
    have h1 : i < xs.length := by omega
    have h2 : i < ys.length := by omega
    exact ⟨xs, ys, xs[i], ys[i], q1, q2, by simp [h1], by simp [h2]⟩
  · rintro H ⟨q1, q2⟩
    exact ⟨xs, ys, q1, q2, rfl⟩
  · rintro i H v H' _ ⟨q1, q2⟩ ⟨T, x, z, h1, h2, h3, h4, h5⟩
    exact ⟨T, x, z, h1, h2, h3, h4 xs q1, h5 ys q2⟩
end Pv

namespace Pv
open PySem PySem.Spec PyProof.Rows L2

/-! data of any kind: lists stand off the drawing state, dicts have leaves alone -/
def kD : Key → PyData
  | .inl i => .int i
  | .inr x => .str x
mutual
inductive Dq (K : PySem.W.Frag) (st r : Addr) (H : Hp) : V → PyData → Prop
  | non : Dq K st r H .non .none
  | bl (b : Bool) : Dq K st r H (.bl b) (.bool b)
  | int (i : Int) : Dq K st r H (.int i) (.int i)
  | str (x : Str) : Dq K st r H (.str x) (.str x)
  | lst {a : Addr} {xs : List V} {ds : List PyData} : H a = some (.lst xs) → a ≠ st → a ≠ r → a ≠ sysModules → DqAll K st r H xs ds → Dq K st r H (.ref a) (.list ds)
  | tup {a : Addr} {xs : List V} {ds : List PyData} : SqT K H a xs → DqAll K st r H xs ds → Dq K st r H (.ref a) (.tuple ds)
  | dct {a : Addr} {kvs : List (Key × Int)} : H a = some (.dK (kvs.map fun p => (p.1, V.int p.2))) → Dq K st r H (.ref a) (.dict (kvs.map fun p => (kD p.1, .int p.2)))
inductive DqAll (K : PySem.W.Frag) (st r : Addr) (H : Hp) : List V → List PyData → Prop
  | nil : DqAll K st r H [] []
  | cons {v : V} {vs : List V} {d : PyData} {ds : List PyData} : Dq K st r H v d → DqAll K st r H vs ds → DqAll K st r H (v :: vs) (d :: ds)
end
theorem keys_reads {P : Program} {w : World} {h : Heap} : ∀ {kvs : List (Key × Int)} {vs : List (Key × Value)} {es : List DictEntry}, KV (kvs.map fun p => (p.1, V.int p.2)) vs → Pairs (mixKind P w) es vs →
    ReadsAll h (es.map (·.key)) ((kvs.map fun p => (kD p.1, PyData.int p.2)).map (·.1)) [] ∧ ReadsAll h (es.map (·.val)) ((kvs.map fun p => (kD p.1, PyData.int p.2)).map (·.2)) []
  | [], _, _, rk, rp => by
    cases rk
    cases rp
    exact ⟨.nil, .nil⟩
  | p :: kvs, _, _, rk, rp => by
    obtain ⟨pk, pi⟩ := p
    rw [List.map_cons] at rk
    cases rk with
    | @cons _ q _ qs hq tq =>
      obtain ⟨qk, qv⟩ := q
      obtain ⟨h1, h2⟩ := hq
      simp only at h1 h2
      subst h1
      cases rp with
      | @cons e _ es _ he hv tp =>
        obtain ⟨r1, r2⟩ := keys_reads (h := h) tq tp
        simp only at he hv
        obtain ⟨t, ht⟩ := h2
        subst ht
        refine ⟨?_, ?_⟩
        · have k1 : Reads h e.key (kD pk) [] := by
            rcases keyIs_shape (show keyIs pk e.key = true from he) with ⟨i, t, e1, e2⟩ | ⟨x, t, e1, e2⟩
            · rw [e1, e2]; exact .int i t
            · rw [e1, e2]; exact .str x t
          exact ReadsAll.cons k1 r1
        · have k2 : Reads h e.val (.int pi) [] := by rw [hv]; exact .int pi t
          exact ReadsAll.cons k2 r2
section
variable {X : Cx} {pins : List (Addr × Obj)} {σ : L2.St} {H : Hp} {s : Shared} {st r : Addr}
mutual
theorem Dq.reads (I : Inv X pins σ H s) : ∀ (d : PyData) (v : V) (u : Value), Dq X.K st r H v d → RelV v u → ∃ as, Reads s.heap u d as ∧ sysModules ∉ as
  | .none, _, _, h, q => by
    cases h; cases q; exact ⟨[], .none, by simp⟩
  | .bool b, _, _, h, q => by
    cases h; cases q; exact ⟨[], .bool b, by simp⟩
  | .int i, _, _, h, q => by
    cases h; obtain ⟨t, e⟩ := q; subst e; exact ⟨[], .int i t, by simp⟩
  | .str x, _, _, h, q => by
    cases h; obtain ⟨t, e⟩ := q; subst e; exact ⟨[], .str x t, by simp⟩
  | .list ds, _, _, h, q => by
    cases h with
    | lst e _ _ n hd =>
      cases q
      obtain ⟨its, rel, ⟨o, m, ho, hc, _, hm⟩, _⟩ := I.list (SqL.of e)
      obtain ⟨as, h1, h2⟩ := DqAll.reads I ds _ its hd rel
      exact ⟨_, .list ho hc hm h1, by simp only [List.mem_cons, not_or]; exact ⟨fun z => n z.symm, h2⟩⟩
  | .tuple ds, _, _, h, q => by
    cases h with
    | tup e hd =>
      cases q
      obtain ⟨its, rel, ⟨o, ho, hc, m, hm⟩, _⟩ := I.tuple e
      obtain ⟨as, h1, h2⟩ := DqAll.reads I ds _ its hd rel
      exact ⟨_, .tuple ho hc hm h1, h2⟩
  | .dict _, _, _, h, q => by
    cases h with
    | dct e =>
      cases q
      obtain ⟨_, nb, vs, rk, o, es, ep, ho, hx, hm, _, rp, _⟩ := dk_of I.hok e
      obtain ⟨h1, h2⟩ := keys_reads (h := s.heap) rk rp
      exact ⟨_, .dict ho hx.1 hm h1 h2, by simp only [List.nil_append, List.append_nil, List.mem_singleton, List.mem_cons, List.not_mem_nil, or_false]; exact fun z => absurd z.symm (by simpa using nb)⟩
theorem DqAll.reads (I : Inv X pins σ H s) : ∀ (ds : List PyData) (vs : List V) (us : List Value), DqAll X.K st r H vs ds → Vals vs us → ∃ as, ReadsAll s.heap us ds as ∧ sysModules ∉ as
  | [], _, _, h, q => by
    cases h; cases q; exact ⟨[], .nil, by simp⟩
  | d :: ds, _, _, h, q => by
    cases h with
    | cons h1 h2 =>
      cases q with
      | cons q1 q2 =>
        obtain ⟨as, e1, n1⟩ := Dq.reads I d _ _ h1 q1
        obtain ⟨bs, e2, n2⟩ := DqAll.reads I ds _ _ h2 q2
        exact ⟨_, .cons e1 e2, by simp only [List.mem_append, not_or]; exact ⟨n1, n2⟩⟩
end
end
/-- repr of such data -/
theorem call_reprQ {X : Cx} (hg : X.A.guards = some []) (hu : X.A.units + 70 < cLine) : CallR X (.builtin "repr")
    (fun xs H Q => ∃ a d st r, xs = [.ref a] ∧ Dq X.K st r H (.ref a) d ∧ d.showable = true ∧ d.depth ≤ 60 ∧ d.shown.length ≤ sizeLine ∧ Q (.str d.shown) H) := by
  intro pins s σ H xs us Q I rv h
  obtain ⟨a, d, st, r, rfl, hd, h1, h3, h4, q⟩ := h
  obtain ⟨u, rfl, rfl⟩ := vals1 rv
  obtain ⟨as, rd, nm⟩ := Dq.reads I d _ _ hd rfl
  exact repr_of_reads' rd h1 (fun _ => nm) hg (by omega) (fun _ _ e => e) (fun h' u tk hk => ⟨.str _, H, I.kept hk, ⟨_, rfl⟩, q⟩) h4

/-! how it lasts -/
section
variable {K : PySem.W.Frag} {st r c : Addr} {H H' : Hp}
structure Lasts (st r : Addr) (H H' : Hp) : Prop where
  tk : TupK H H'
  ls : ∀ a xs, H a = some (.lst xs) → a ≠ st → a ≠ r → H' a = some (.lst xs)
  dk : ∀ a kvs, H a = some (.dK kvs) → H' a = some (.dK kvs)
theorem Lasts.refl : Lasts st r H H := ⟨.refl _, fun _ _ e _ _ => e, fun _ _ e => e⟩
theorem Lasts.of (s : Same H H') : Lasts st r H H' := ⟨.of s, fun a xs e _ _ => s _ _ e, fun a kvs e => s _ _ e⟩
theorem Lasts.ext {t : Nat} (d : DS H st c r t) (x : Ext st r H H') : Lasts st r H H' := by
  refine ⟨x.tup d, fun a xs e n1 n2 => x _ _ e n1 n2, fun a kvs e => ?_⟩
  obtain ⟨cells, rests, hc, hr, _⟩ := d.ex
  exact x _ _ e (ne_of e d.hs (by intro z; cases z)) (ne_of e hr (by intro z; cases z))
theorem Lasts.trans {H2 : Hp} (a : Lasts st r H H') (b : Lasts st r H' H2) : Lasts st r H H2 :=
  ⟨a.tk.trans b.tk, fun p xs e n1 n2 => b.ls _ _ (a.ls _ _ e n1 n2) n1 n2, fun p kvs e => b.dk _ _ (a.dk _ _ e)⟩
theorem Lasts.new {p : Addr} {o : HO} (np : H p = none) : Lasts st r H (upd H p o) := .of (sameNew np)
mutual
theorem Dq.lasts (l : Lasts st r H H') : ∀ {d : PyData} {v : V}, Dq K st r H v d → Dq K st r H' v d
  | .none, _, h => by cases h; exact .non
  | .bool _, _, h => by cases h; exact .bl _
  | .int _, _, h => by cases h; exact .int _
  | .str _, _, h => by cases h; exact .str _
  | .list _, _, h => by
    cases h with
    | lst e n1 n2 n3 hd => exact .lst (l.ls _ _ e n1 n2) n1 n2 n3 (DqAll.lasts l hd)
  | .tuple _, _, h => by
    cases h with
    | tup e hd => exact .tup (l.tk.sq e) (DqAll.lasts l hd)
  | .dict _, _, h => by
    cases h with
    | dct e => exact .dct (l.dk _ _ e)
theorem DqAll.lasts (l : Lasts st r H H') : ∀ {ds : List PyData} {vs : List V}, DqAll K st r H vs ds → DqAll K st r H' vs ds
  | [], _, h => by cases h; exact .nil
  | _ :: _, _, h => by
    cases h with
    | cons h1 h2 => exact .cons (Dq.lasts l h1) (DqAll.lasts l h2)
end
mutual
theorem Dq.of_dp : ∀ {d : PyData} {v : V}, tupOnly d = true → Dp K H v d → Dq K st r H v d
  | .none, _, _, h => by cases h; exact .non
  | .bool _, _, _, h => by cases h; exact .bl _
  | .int _, _, _, h => by cases h; exact .int _
  | .str _, _, _, h => by cases h; exact .str _
  | .list _, _, t, _ => by simp [tupOnly] at t
  | .tuple _, _, t, h => by
    cases h with
    | tup e hd => exact .tup e (DqAll.of_dp (by simpa [tupOnly] using t) hd)
  | .dict _, _, t, _ => by simp [tupOnly] at t
theorem DqAll.of_dp : ∀ {ds : List PyData} {vs : List V}, tupOnlyAll ds = true → DpAll K H vs ds → DqAll K st r H vs ds
  | [], _, _, h => by cases h; exact .nil
  | d :: ds, _, t, h => by
    have t' : tupOnly d = true ∧ tupOnlyAll ds = true := by simpa [tupOnlyAll] using t
    cases h with
    | cons h1 h2 => exact .cons (Dq.of_dp t'.1 h1) (DqAll.of_dp t'.2 h2)
theorem Dq.to_dp : ∀ {d : PyData} {v : V}, tupOnly d = true → Dq K st r H v d → Dp K H v d
  | .none, _, _, h => by cases h; exact .non
  | .bool _, _, _, h => by cases h; exact .bl _
  | .int _, _, _, h => by cases h; exact .int _
  | .str _, _, _, h => by cases h; exact .str _
  | .list _, _, t, _ => by simp [tupOnly] at t
  | .tuple _, _, t, h => by
    cases h with
    | tup e hd => exact .tup e (DqAll.to_dp (by simpa [tupOnly] using t) hd)
  | .dict _, _, t, _ => by simp [tupOnly] at t
theorem DqAll.to_dp : ∀ {ds : List PyData} {vs : List V}, tupOnlyAll ds = true → DqAll K st r H vs ds → DpAll K H vs ds
  | [], _, _, h => by cases h; exact .nil
  | d :: ds, _, t, h => by
    have t' : tupOnly d = true ∧ tupOnlyAll ds = true := by simpa [tupOnlyAll] using t
    cases h with
    | cons h1 h2 => exact .cons (Dq.to_dp t'.1 h1) (DqAll.to_dp t'.2 h2)
end
theorem DqAll.len : ∀ {vs : List V} {ds : List PyData}, DqAll K st r H vs ds → vs.length = ds.length
  | _, _, .nil => rfl
  | _, _, .cons _ t => by simp [DqAll.len t]
theorem DqAll.at : ∀ {vs : List V} {ds : List PyData} {i : Nat} {v : V}, DqAll K st r H vs ds → vs[i]? = some v → ∃ d, ds[i]? = some d ∧ Dq K st r H v d
  | _, _, _, _, .nil, e => by simp at e
  | _, _, 0, _, .cons h _, e => by simp at e; subst e; exact ⟨_, rfl, h⟩
  | _, _, i + 1, v, .cons _ t, e => by
    obtain ⟨d, h1, h2⟩ := DqAll.at (i := i) t (by simpa using e)
    exact ⟨d, by simpa using h1, h2⟩
theorem DqAll.app : ∀ {vs ws : List V} {ds es : List PyData}, DqAll K st r H vs ds → DqAll K st r H ws es → DqAll K st r H (vs ++ ws) (ds ++ es)
  | _, _, _, _, .nil, h => h
  | _, _, _, _, .cons h t, h' => .cons h (DqAll.app t h')
theorem DqAll.snoc {vs : List V} {ds : List PyData} {v : V} {d : PyData} (h : DqAll K st r H vs ds) (h' : Dq K st r H v d) : DqAll K st r H (vs ++ [v]) (ds ++ [d]) := h.app (.cons h' .nil)
theorem DqAll.rev : ∀ {vs : List V} {ds : List PyData}, DqAll K st r H vs ds → DqAll K st r H vs.reverse ds.reverse
  | _, _, .nil => .nil
  | _, _, .cons h t => by rw [List.reverse_cons, List.reverse_cons]; exact (DqAll.rev t).snoc h
theorem DqAll.take : ∀ {vs : List V} {ds : List PyData} (n : Nat), DqAll K st r H vs ds → DqAll K st r H (vs.take n) (ds.take n)
  | _, _, 0, _ => .nil
  | _, _, _ + 1, .nil => .nil
  | _, _, n + 1, .cons h t => .cons h (DqAll.take n t)
theorem DqAll.drop : ∀ {vs : List V} {ds : List PyData} (n : Nat), DqAll K st r H vs ds → DqAll K st r H (vs.drop n) (ds.drop n)
  | _, _, 0, h => h
  | _, _, _ + 1, .nil => .nil
  | _, _, n + 1, .cons _ t => DqAll.drop n t
/-- its type -/
def tyN : PyData → String
  | .none => "NoneType"
  | .bool _ => "bool"
  | .int _ => "int"
  | .str _ => "str"
  | .list _ => "list"
  | .tuple _ => "tuple"
  | .dict _ => "dict"
theorem Dq.ty {d : PyData} {v : V} (h : Dq K st r H v d) : TyX K H v (.type (tyN d)) := by
  cases h with
  | non => exact .base .non
  | bl b => exact .base (.bl b)
  | int i => exact .base (.int i)
  | str x => exact .base (.str x)
  | lst e => exact .base (.lst e)
  | tup e _ =>
    rcases e with (e | ⟨o, e⟩) | ⟨o, its, n, e, hc, _⟩
    · exact .base (.tup e)
    · exact .fTuple e
    · exact .kTuple e hc
  | dct e => exact .base (.dK e)
def isTup : PyData → Bool
  | .tuple _ => true
  | _ => false
def isInt : PyData → Bool
  | .int _ => true
  | .bool _ => true
  | _ => false
def isBool : PyData → Bool
  | .bool _ => true
  | _ => false
theorem kit_tup (d : PyData) : PySem.W.kitOne K (.type (tyN d)) (.type "tuple") = some (isTup d) := by
  have key : ∀ a b : String, ∀ x : Bool, kitB a b = some x → PySem.W.kitOne K (.type a) (.type b) = some x := fun _ _ _ h => kit_ty h
  cases d
  · exact key "NoneType" "tuple" false (by decide +kernel)
  · exact key "bool" "tuple" false (by decide +kernel)
  · exact key "int" "tuple" false (by decide +kernel)
  · exact key "str" "tuple" false (by decide +kernel)
  · exact key "list" "tuple" false (by decide +kernel)
  · exact key "tuple" "tuple" true (by decide +kernel)
  · exact key "dict" "tuple" false (by decide +kernel)
theorem kit_int (d : PyData) : PySem.W.kitOne K (.type (tyN d)) (.type "int") = some (isInt d) := by
  have key : ∀ a b : String, ∀ x : Bool, kitB a b = some x → PySem.W.kitOne K (.type a) (.type b) = some x := fun _ _ _ h => kit_ty h
  cases d
  · exact key "NoneType" "int" false (by decide +kernel)
  · exact key "bool" "int" true (by decide +kernel)
  · exact key "int" "int" true (by decide +kernel)
  · exact key "str" "int" false (by decide +kernel)
  · exact key "list" "int" false (by decide +kernel)
  · exact key "tuple" "int" false (by decide +kernel)
  · exact key "dict" "int" false (by decide +kernel)
theorem kit_bool (d : PyData) : PySem.W.kitOne K (.type (tyN d)) (.type "bool") = some (isBool d) := by
  have key : ∀ a b : String, ∀ x : Bool, kitB a b = some x → PySem.W.kitOne K (.type a) (.type b) = some x := fun _ _ _ h => kit_ty h
  cases d
  · exact key "NoneType" "bool" false (by decide +kernel)
  · exact key "bool" "bool" true (by decide +kernel)
  · exact key "int" "bool" false (by decide +kernel)
  · exact key "str" "bool" false (by decide +kernel)
  · exact key "list" "bool" false (by decide +kernel)
  · exact key "tuple" "bool" false (by decide +kernel)
  · exact key "dict" "bool" false (by decide +kernel)
end
/-! a new list, whose address is none of the machine's own -/
def tLstS (t : TA) : TE := fun σ H Q => t σ H fun xs H1 => xs.length ≤ sizeLine ∧ ∀ p, H1 p = none → p ≠ sysModules → Q (.ref p) (upd H1 p (.lst xs))
section
variable {X : Cx} {es : List Expr} {pos : Pos} {t : TA}
theorem pe_lstS (h : PA X es t) : PE X (.List es pos) (tLstS t) := by
  constructor
  intro pins s σ H Q I hq
  refine wpAny_List_spliced (thn (h.run pos pins s σ H _ I hq) ?_)
  rintro us s1 ⟨xs, H1, I1, rel, z, q⟩
  refine ⟨by rw [← rel.length]; exact z, .ref s1.heap.objs.size, _, ?_, rfl, q _ (I1.hok.fresh (Nat.le_refl _)) (Nat.ne_of_gt I1.big)⟩
  exact I1.laid (t' := s1.toks) (fun b u e => Heap.get?_push_of_some _ e) (Nat.le_refl _) ⟨z, us, 0, rel, Heap.get?_push_size _ rfl⟩
def rListS (K : PySem.W.Frag) : RC := fun xs H Q => ∃ (p : Addr) (ys : List V), xs = [.ref p] ∧ SqT K H p ys ∧ ∀ l, H l = none → l ≠ sysModules → Q (.ref l) (upd H l (.lst ys))
theorem call_listS : CallR X (.type "list") (rListS X.K) := by
  intro pins s σ H xs us Q I rel h
  obtain ⟨p, ys, e, hq, q⟩ := h
  subst e
  obtain ⟨u, e, rx⟩ := vals1 rel
  subst e
  cases rx
  obtain ⟨its, r', ⟨o, ho, hc, n, hd⟩, hz⟩ := I.tuple hq
  have hlen := r'.length
  refine call_list_seq p (.inr rfl) ho hc hd (fun h' c' kp e => ?_) (by simp only [List.size_toArray]; omega)
  exact ⟨.ref s.heap.objs.size, _, I.laid (t' := s.toks) (o := .lst ys) kp (Nat.le_refl _) ⟨hz, its, c', r', e⟩, rfl, q _ (I.hok.fresh (Nat.le_refl _)) (Nat.ne_of_gt I.big)⟩
end
end Pv

/-! t[::-1] of a tuple -/
namespace HT
open PySem PyProof.Rows
section
variable {prog : Program} {w : World} {A : Around} {E : Value → Shared → Prop} {s : Shared}
theorem pv_pickBack (xs : Array Value) : ((List.range xs.size).filterMap fun (k : Nat) => xs[(((xs.size : Int) - 1) + (k : Int) * (-1)).toNat]?) = xs.toList.reverse := by
  apply List.ext_getElem?
  intro i
  have e : ∀ n, n ≤ xs.size → ((List.range n).filterMap fun (k : Nat) => xs[(((xs.size : Int) - 1) + (k : Int) * (-1)).toNat]?) = xs.toList.reverse.take n := by
    intro n
    induction n with
    | zero => intro _; rfl
    | succ n ih =>
      intro hn
      rw [List.range_succ, List.filterMap_append, ih (by omega), List.take_add_one]
      congr 1
      have h1 : (((xs.size : Int) - 1) + (n : Int) * (-1)).toNat = xs.size - 1 - n := by omega
      rw [List.filterMap_cons, List.filterMap_nil, h1, List.getElem?_reverse (by rw [Array.length_toList]; omega), Array.length_toList, Array.getElem?_toList]
      cases xs[xs.size - 1 - n]? <;> rfl
  rw [e xs.size (Nat.le_refl _), List.take_of_length_le (by simp)]
theorem pv_appliedBack {sl : Addr} {n : Nat} {t : Tok} {Q : Int × Int × Nat → Shared → Prop} (hs : s.heap.IsSliceOf sl .none .none (.int (-1) t)) (h : Q ((n : Int) - 1, -1, n) s) :
    wpAny (model prog w) A (Builtin.Slice.sliceApplied (.ref sl) (pure (n : Int))) Q E s := by
  obtain ⟨os, hos, hcs, hds⟩ := id hs
  unfold Builtin.Slice.sliceApplied Builtin.Slice.sliceFields
  refine wpAny_bind (wpAny_bind (wpAny_field hos hds (x := .none) rfl (wpAny_bind (wpAny_field hos hds (x := .none) rfl (wpAny_bind (wpAny_field hos hds (x := .int (-1) t) rfl (wpAny_pure ?_)))))))
  refine wpAny_bind (slicePart_ (IsPart.int (-1) t) ?_)
  show wpAny _ _ (if ((-1 : Int) == 0) = true then _ else _) _ _ s
  rw [if_neg (by decide)]
  refine wpAny_bind (slicePart_ IsPart.none (wpAny_bind (slicePart_ IsPart.none (wpAny_bind (wpAny_pure ?_)))))
  show wpAny _ _ (match Builtin.Slice.sliceAdjust none none (-1) (n : Int) with | (a, b) => pure (a, (-1 : Int), Builtin.Slice.slicePlaces a b (-1))) _ _ s
  have e1 : Builtin.Slice.sliceAdjust none none (-1) (n : Int) = ((n : Int) - 1, -1) := rfl
  rw [e1]
  show wpAny _ _ (pure ((n : Int) - 1, (-1 : Int), Builtin.Slice.slicePlaces ((n : Int) - 1) (-1) (-1))) _ _ s
  have e2 : Builtin.Slice.slicePlaces ((n : Int) - 1) (-1) (-1) = n := by
    unfold Builtin.Slice.slicePlaces
    have h1 : ¬ ((-1 : Int) > 0) := by omega
    simp only [h1, if_false]
    by_cases h2 : (n : Int) - 1 > -1
    · rw [if_pos h2]
      have h3 : -(-1 : Int) = 1 := rfl
      rw [h3, Int.ediv_one]
      omega
    · rw [if_neg h2]; omega
  rw [e2]
  exact wpAny_pure h
theorem pv_getItemBack {p sl : Addr} {items : Array Value} {t : Tok} {Q : Value → Shared → Prop} (ht : IsTup s.heap p items) (hs : s.heap.IsSliceOf sl .none .none (.int (-1) t))
    (h : Q (.ref s.heap.objs.size) { s with heap := s.heap.push { cls := .type "tuple", data := .seq items.toList.reverse.toArray } }) (hsz : items.size ≤ sizeLine) : wpAny (model prog w) A (getItem (.ref p) (.ref sl)) Q E s := by
  have hfit : sizeOk (.seq items.toList.reverse.toArray) := by
    show items.toList.reverse.toArray.size ≤ sizeLine
    rw [List.size_toArray, List.length_reverse]; simpa using hsz
  obtain ⟨os, hos, hcs, hds⟩ := id hs
  have hT : s.TypeIs (.ref sl) "slice" := ⟨os, hos, hcs⟩
  unfold getItem; try with_reducible refine wpAny_holding ?_
  first | refine wpAny_bind (wpAny_pure ?_) | skip
  refine wpAny_bind (wpAny_sequenceKey ht.typeIs (by decide) (wpAny_bind (wpAny_callSpecial?_slot (name := Str.ofString "__getitem__") ht.typeIs PyProof.Rows.slot_tuple_getitem
    (wpAny_call_entry PyProof.Rows.slot_tuple_getitem ht.typeIs entry_tuple_getitem ?_ (args_tuple_getitem _ _)))))
  show wpAny _ _ (Builtin.Tuple.tupleItemsOf (.ref p) >>= _) _ _ s
  refine wpAny_bind (tupleItemsOf_ ht (wpAny_bind (wpAny_typeOf hT ?_)))
  rw [if_pos (by decide)]
  refine wpAny_bind (pv_appliedBack hs ?_)
  show wpAny _ _ (if (((items.size : Int) - 1) == 0 && (-1 : Int) == 1 && items.size == items.size) = true then _ else _) _ _ s
  rw [if_neg (by simp)]
  show wpAny _ _ (Builtin.Tuple.tupleExact ((List.range items.size).filterMap fun (k : Nat) => items[(((items.size : Int) - 1) + (k : Int) * (-1)).toNat]?).toArray >>= _) _ _ s
  rw [pv_pickBack]
  first
    | exact wpAny_bind (m := Builtin.Tuple.tupleExact _) (wpAny_newObj_type (wpAny_pure ⟨_, rfl, wpAny_pure h⟩) hfit)
    | exact wpAny_bind (m := Builtin.Tuple.tupleExact _) (wpAny_newObj_type (wpAny_bind (wpAny_pure (wpAny_pure ⟨_, rfl, wpAny_pure h⟩))) hfit)
    | exact wpAny_bind (wpAny_bind (m := Builtin.Tuple.tupleExact _) (wpAny_newObj_type (wpAny_pure (wpAny_pure ⟨_, rfl, wpAny_pure h⟩)) hfit))
    | exact wpAny_bind (wpAny_bind (m := Builtin.Tuple.tupleExact _) (wpAny_newObj_type (wpAny_pure ⟨_, rfl, wpAny_pure h⟩) hfit))
end
end HT
namespace Pv
open PySem PySem.Spec PyProof.Rows L2
def tRevT (K : PySem.W.Frag) (te : TE) : TE := fun σ H Q => te σ H fun x H1 => ∃ (a : Addr) (xs : List V), x = .ref a ∧ SqT K H1 a xs ∧ ∀ p, H1 p = none → Q (.ref p) (upd H1 p (.tup xs.reverse))
section
variable {X : Cx}
theorem pe_revT {e : Expr} {te : TE} {k : Nat} {p1 p2 p3 pos : Pos} (he : PE X e te) : PE X (.Subscript e (.Slice none none (some (.UnaryOp .USub (.Constant (.int 1) k p1) p2)) p3) pos) (tRevT X.K te) := by
  constructor
  intro pins s σ H Q I h
  refine Subscript_ (thn (he.run pins s σ H _ I h) ?_)
  rintro v s1 ⟨x, H1, I1, r1, a, xs, rfl, hx, q⟩
  cases r1
  have hst : PO X (some (.UnaryOp .USub (.Constant (.int 1) k p1) p2)) (tPart (tUn (rU fun i => .int (-i)) (tC (.int 1)))) := po_some (pe_un un_neg pe_int)
  refine wpAny_Slice (thn (po_none.run pins s1 σ H1 (fun o H2 => o = none ∧ H2 = H1) I1 ⟨rfl, rfl⟩) ?_)
  rintro vl s2 ⟨l, H2, I2, pl, rfl, rfl⟩
  refine thn (po_none.run pins s2 σ H2 (fun o H3 => o = none ∧ H3 = H2) I2 ⟨rfl, rfl⟩) ?_
  rintro vu s3 ⟨u, H3, I3, pu, rfl, rfl⟩
  refine thn (hst.run pins s3 σ H3 (fun o H4 => o = some (-1) ∧ H4 = H3) I3 ⟨1, rfl, -1, rfl, rfl, rfl⟩) ?_
  rintro vs s4 ⟨o, H4, I4, ps, rfl, rfl⟩
  have I5 : Inv X pins σ H4 { s4 with heap := s4.heap.push { cls := .type "slice", data := .fields #[vl, vu, vs] } } := I4.kept (t' := s4.toks) fun b ob q => Heap.get?_push_of_some _ q
  obtain ⟨its, r, ht, hz⟩ := I5.tuple hx
  have hlen := r.length
  cases pl
  cases pu
  cases ps
  show wpAny (model X.prog X.w) X.A (subscriptTail e (.Slice none none (some (.UnaryOp .USub (.Constant (.int 1) k p1) p2)) p3) (.ref a) (.ref s4.heap.objs.size)) (EP X pins σ Q) X.xe _
  refine tail_any (ops := [.ref a, .ref s4.heap.objs.size]) ht.typeIs (PyProof.Rows.slot_tuple_getitem.lookup) ?_ (by with_unfolding_all rfl)
  refine HT.pv_getItemBack ht (Heap.IsSliceOf.new _ _ _ _) ?_ (by rw [List.size_toArray]; omega)
  refine ⟨.ref _, _, I5.laid (t' := s4.toks) (o := .tup xs.reverse) (fun b ob q => Heap.get?_push_of_some _ q) (Nat.le_refl _) ?_, rfl, q _ (I5.hok.fresh (Nat.le_refl _))⟩
  exact ⟨by rw [List.length_reverse]; exact hz, _, r.reverse, IsTup.new _ _⟩
/-! list == [], tuple != () whatever the items are -/
def rEqNil (K : PySem.W.Frag) : R2 := fun x y H Q => ∃ (a b : Addr) (xs : List V), x = .ref a ∧ y = .ref b ∧ SqL K H a xs ∧ SqL K H b [] ∧ Q (.bl xs.isEmpty) H
theorem op_eqNil (hu : X.A.units < cLine) : OpR X (compareOp .Eq) (rEqNil X.K) := by
  intro pins s σ H x y v u Q I rx ry h
  obtain ⟨a, b, xs, rfl, rfl, ha, hb, q⟩ := h
  cases rx
  cases ry
  obtain ⟨its, r1, p1, z1⟩ := I.list ha
  obtain ⟨its2, r2, p2, z2⟩ := I.list hb
  cases r2
  cases xs with
  | nil =>
    cases r1
    exact SeqAt.RcAt.lists (e := fun _ => true) p1.isList p2.isList rfl hu (fun j h1 _ => absurd h1 (Nat.not_lt_zero _)) X.prog X.w _ _ ⟨.bl true, H, I, rfl, q⟩
  | cons x xs =>
    have hl := r1.length
    exact SeqAt.RcAt.lists_lengths p1.isList p2.isList (by rw [List.size_toArray, ← hl]; rfl) hu X.prog X.w _ _ ⟨.bl false, H, I, rfl, q⟩
def rNeNilT (K : PySem.W.Frag) : R2 := fun x y H Q => ∃ (a b : Addr) (xs : List V), x = .ref a ∧ y = .ref b ∧ SqT K H a xs ∧ SqT K H b [] ∧ Q (.bl (!xs.isEmpty)) H
theorem op_neNilT (hu : X.A.units < cLine) : OpR X (compareOp .NotEq) (rNeNilT X.K) := by
  intro pins s σ H x y v u Q I rx ry h
  obtain ⟨a, b, xs, rfl, rfl, ha, hb, q⟩ := h
  cases rx
  cases ry
  obtain ⟨its, r1, p1, z1⟩ := I.tuple ha
  obtain ⟨its2, r2, p2, z2⟩ := I.tuple hb
  cases r2
  have hl := r1.length
  have key := SeqAt.RcNeAt.tuples (A := X.A) (e := fun _ => true) (show s.heap.IsTuple a its.toArray from p1) (show s.heap.IsTuple b ([] : List Value).toArray from p2) hu (fun j _ h2 => absurd h2 (Nat.not_lt_zero _)) X.prog X.w
  have e : (!((List.range (min its.toArray.size ([] : List Value).toArray.size)).all (fun _ => true) && its.toArray.size == ([] : List Value).toArray.size)) = !xs.isEmpty := by
    rw [List.size_toArray, ← hl]
    cases xs <;> simp
  rw [e] at key
  exact key _ _ ⟨.bl _, H, I, rfl, q⟩
end
end Pv

namespace Pv
open PySem PySem.Spec PyProof.Rows L2
/-! how large data is -/
mutual
def fit (M : Nat) : PyData → Prop
  | .none => True
  | .bool _ => True
  | .int i => i.natAbs ≤ M
  | .str x => (reprText x).length ≤ 40
  | .list xs => fitAll M xs
  | .tuple xs => fitAll M xs
  | .dict kvs => (PyData.shown (.dict kvs)).length ≤ 40 ∧ PyData.showable (.dict kvs) = true
def fitAll (M : Nat) : List PyData → Prop
  | [] => True
  | x :: xs => fit M x ∧ fitAll M xs
end
mutual
def wt : PyData → Nat
  | .none => 40
  | .bool _ => 40
  | .int _ => 40
  | .str _ => 40
  | .list xs => wtAll xs + 3
  | .tuple xs => wtAll xs + 3
  | .dict _ => 40
def wtAll : List PyData → Nat
  | [] => 0
  | x :: xs => wt x + 2 + wtAll xs
end
theorem int_text {i : Int} {M : Nat} (h : i.natAbs ≤ M) (hM : M < 10 ^ 35) : (PyData.int i).showable = true ∧ (PyData.int i).shown.length ≤ 40 := by
  have h' : i.natAbs < 10 ^ 35 := by omega
  refine ⟨?_, ?_⟩
  · simp only [PyData.showable, decide_eq_true_eq]
    have : i.natAbs.log2 < 200 := by
      by_cases h0 : i.natAbs = 0
      · rw [h0]; decide
      · exact (Nat.log2_lt h0).mpr (Nat.lt_trans h' (by decide))
    omega
  · have e := int_text_length_le10 (k := 35) (by decide) h'
    show (Str.ofString (toString i)).length ≤ 40
    rw [PySem.ofString_length]
    omega
mutual
theorem fit_ok {M : Nat} (hM : M < 10 ^ 35) : ∀ {d : PyData}, fit M d → d.showable = true ∧ d.shown.length ≤ wt d
  | .none, _ => by simp only [PyData.showable, PyData.shown, wt]; decide
  | .bool b, _ => by cases b <;> (simp only [PyData.showable, PyData.shown, wt]; decide)
  | .int i, h => by
    have := int_text (i := i) (M := M) (by simpa only [fit] using h) hM
    simp only [wt]; exact this
  | .str x, h => by simp only [fit] at h; simp only [PyData.showable, PyData.shown, wt]; exact ⟨trivial, h⟩
  | .list xs, h => by
    obtain ⟨h1, h2⟩ := fitAll_ok hM (xs := xs) (by simpa only [fit] using h)
    simp only [PyData.showable, PyData.shown, wt]
    refine ⟨h1, ?_⟩
    have e := listText_len_le (PyData.shownAll xs)
    omega
  | .tuple xs, h => by
    obtain ⟨h1, h2⟩ := fitAll_ok hM (xs := xs) (by simpa only [fit] using h)
    simp only [PyData.showable, PyData.shown, wt]
    refine ⟨h1, ?_⟩
    have e := tupleText_len_le (PyData.shownAll xs)
    omega
  | .dict kvs, h => by simp only [fit] at h; simp only [wt]; exact ⟨h.2, h.1⟩
theorem fitAll_ok {M : Nat} (hM : M < 10 ^ 35) : ∀ {xs : List PyData}, fitAll M xs → PyData.showableAll xs = true ∧ ((PyData.shownAll xs).map (·.length)).sum + 2 * (PyData.shownAll xs).length ≤ wtAll xs
  | [], _ => by simp [PyData.showableAll, PyData.shownAll, wtAll]
  | x :: xs, h => by
    have h' : fit M x ∧ fitAll M xs := by simpa only [fitAll] using h
    obtain ⟨a1, a2⟩ := fit_ok hM h'.1
    obtain ⟨b1, b2⟩ := fitAll_ok hM h'.2
    refine ⟨by simp [PyData.showableAll, a1, b1], ?_⟩
    simp only [PyData.shownAll, List.map_cons, List.sum_cons, List.length_cons, wtAll]
    omega
end
mutual
theorem fit_mono {M M' : Nat} (h : M ≤ M') : ∀ {d : PyData}, fit M d → fit M' d
  | .none, _ => by simp [fit]
  | .bool _, _ => by simp [fit]
  | .int i, q => by simp only [fit] at *; omega
  | .str x, q => by simpa only [fit] using q
  | .list xs, q => by simp only [fit] at *; exact fitAll_mono h q
  | .tuple xs, q => by simp only [fit] at *; exact fitAll_mono h q
  | .dict _, q => by simpa only [fit] using q
theorem fitAll_mono {M M' : Nat} (h : M ≤ M') : ∀ {xs : List PyData}, fitAll M xs → fitAll M' xs
  | [], _ => by simp [fitAll]
  | x :: xs, q => by
    have q' : fit M x ∧ fitAll M xs := by simpa only [fitAll] using q
    simp only [fitAll]
    exact ⟨fit_mono h q'.1, fitAll_mono h q'.2⟩
end
theorem fitAll_iff {M : Nat} : ∀ {xs : List PyData}, fitAll M xs ↔ ∀ x ∈ xs, fit M x
  | [] => by simp [fitAll]
  | x :: xs => by simp [fitAll, fitAll_iff (xs := xs)]
theorem wtAll_app : ∀ (xs ys : List PyData), wtAll (xs ++ ys) = wtAll xs + wtAll ys
  | [], ys => by simp [wtAll]
  | x :: xs, ys => by simp only [List.cons_append, wtAll, wtAll_app xs ys]; omega
theorem wtAll_rev : ∀ xs : List PyData, wtAll xs.reverse = wtAll xs
  | [] => rfl
  | x :: xs => by rw [List.reverse_cons, wtAll_app, wtAll_rev xs]; simp only [wtAll]; omega
theorem wtAll_split (xs : List PyData) (n : Nat) : wtAll xs = wtAll (xs.take n) + wtAll (xs.drop n) := by rw [← wtAll_app, List.take_append_drop]
theorem wtAll_len : ∀ xs : List PyData, 2 * xs.length ≤ wtAll xs
  | [] => by simp [wtAll]
  | x :: xs => by have := wtAll_len xs; simp only [wtAll, List.length_cons]; omega
theorem depthAll_le {k : Nat} : ∀ {xs : List PyData}, PyData.depthAll xs ≤ k ↔ ∀ x ∈ xs, x.depth ≤ k
  | [] => by simp [PyData.depthAll]
  | x :: xs => by
    have := depthAll_le (k := k) (xs := xs)
    simp only [PyData.depthAll, List.mem_cons, forall_eq_or_imp, ← this]
    omega
structure Fit (M k W : Nat) (d : PyData) : Prop where
  ok : fit M d
  dp : d.depth ≤ k
  wt : wt d ≤ W
theorem Fit.mono {M M' k k' W W' : Nat} {d : PyData} (h : Fit M k W d) (h1 : M ≤ M') (h2 : k ≤ k') (h3 : W ≤ W') : Fit M' k' W' d := ⟨fit_mono h1 h.ok, Nat.le_trans h.dp h2, Nat.le_trans h.wt h3⟩
theorem Fit.at {M k W : Nat} {ds : List PyData} {d : PyData} (h : Fit M k W (.tuple ds)) (hm : d ∈ ds) : Fit M (k - 1) W d ∧ d.depth + 1 ≤ (PyData.tuple ds).depth ∧ 1 ≤ k := by
  have h1 : fitAll M ds := by have := h.ok; simpa only [fit] using this
  have h2 := h.dp
  simp only [PyData.depth] at h2
  have h3 : ∀ x ∈ ds, x.depth ≤ PyData.depthAll ds := depthAll_le.mp (Nat.le_refl _)
  have h4 := h3 d hm
  refine ⟨⟨fitAll_iff.mp h1 d hm, by omega, ?_⟩, by simp only [PyData.depth]; omega, by omega⟩
  obtain ⟨a, b, rfl⟩ := List.append_of_mem hm
  have h5 := h.wt
  simp only [Pv.wt, wtAll_app, wtAll] at h5
  omega
/-- a tuple made of parts -/
theorem Fit.tup {M k W : Nat} {ds : List PyData} (h1 : ∀ d ∈ ds, fit M d ∧ d.depth + 1 ≤ k) (h0 : 1 ≤ k) (h2 : wtAll ds + 3 ≤ W) : Fit M k W (.tuple ds) := by
  refine ⟨by simp only [fit]; exact fitAll_iff.mpr fun d hd => (h1 d hd).1, ?_, by simpa only [Pv.wt] using h2⟩
  simp only [PyData.depth]
  have : PyData.depthAll ds ≤ k - 1 := depthAll_le.mpr fun d hd => by have := (h1 d hd).2; omega
  omega
theorem Fit.lst {M k W : Nat} {ds : List PyData} (h1 : ∀ d ∈ ds, fit M d ∧ d.depth + 1 ≤ k) (h0 : 1 ≤ k) (h2 : wtAll ds + 3 ≤ W) : Fit M k W (.list ds) := by
  refine ⟨by simp only [fit]; exact fitAll_iff.mpr fun d hd => (h1 d hd).1, ?_, by simpa only [Pv.wt] using h2⟩
  simp only [PyData.depth]
  have : PyData.depthAll ds ≤ k - 1 := depthAll_le.mpr fun d hd => by have := (h1 d hd).2; omega
  omega
theorem Fit.parts {M k W : Nat} {ds : List PyData} (h : Fit M k W (.tuple ds)) : (∀ d ∈ ds, fit M d ∧ d.depth + 1 ≤ k) ∧ 1 ≤ k ∧ wtAll ds + 3 ≤ W := by
  have h0 : 1 ≤ k := by have := h.dp; simp only [PyData.depth] at this; omega
  refine ⟨fun d hd => ⟨(h.at hd).1.ok, ?_⟩, h0, by have := h.wt; simpa only [Pv.wt] using this⟩
  have := (h.at hd).1.dp
  omega
theorem Fit.int {M k W : Nat} {i : Int} (h : i.natAbs ≤ M) (hW : 40 ≤ W) : Fit M k W (.int i) := ⟨by simpa only [fit] using h, by simp [PyData.depth], by simpa only [Pv.wt] using hW⟩
/-- what is shown together -/
theorem fit_pair {M : Nat} (hM : M < 10 ^ 35) {k W : Nat} {a b : PyData} (ha : Fit M k W a) (hb : Fit M k W b) (hk : k ≤ 50) (hW : W ≤ 1000000) :
    (PyData.list [a, b]).showable = true ∧ (PyData.list [a, b]).depth ≤ 60 ∧ (PyData.list [a, b]).shown.length ≤ sizeLine := by
  have h : Fit M (k + 1) (2 * W + 10) (.list [a, b]) := by
    refine Fit.lst ?_ (by omega) ?_
    · intro d hd
      rcases List.mem_cons.mp hd with rfl | hd
      · exact ⟨ha.ok, by have := ha.dp; omega⟩
      · rcases List.mem_cons.mp hd with rfl | hd
        · exact ⟨hb.ok, by have := hb.dp; omega⟩
        · cases hd
    · have h1 := ha.wt
      have h2 := hb.wt
      simp only [wtAll]; omega
  obtain ⟨s1, s2⟩ := fit_ok hM h.ok
  refine ⟨s1, Nat.le_trans h.dp (by omega), Nat.le_trans s2 (Nat.le_trans h.wt ?_)⟩
  rw [sizeLine_eq]; omega
/-! the data of instances and assignments -/
theorem fit_dI {M : Nat} {ns : List Int} (h : ∀ i ∈ ns, i.natAbs ≤ M) : Fit M 1 (ns.length * 42 + 3) (dI ns) := by
  have hw : wtAll (ns.map PyData.int) = ns.length * 42 := by
    clear h
    induction ns with
    | nil => rfl
    | cons a ns ih => simp only [List.map_cons, wtAll, wt, ih, List.length_cons]; omega
  refine Fit.tup ?_ (by decide) (by rw [hw]; exact Nat.le_refl _)
  intro d hd
  obtain ⟨i, hi, rfl⟩ := List.mem_map.mp hd
  exact ⟨by simpa only [fit] using h i hi, by simp [PyData.depth]⟩
theorem wtAll_le {W : Nat} : ∀ {ds : List PyData}, (∀ d ∈ ds, wt d ≤ W) → wtAll ds ≤ ds.length * (W + 2)
  | [], _ => by simp [wtAll]
  | d :: ds, h => by
    have h1 := h d (by simp)
    have h2 := wtAll_le (W := W) (ds := ds) (fun x hx => h x (by simp [hx]))
    simp only [wtAll, List.length_cons, Nat.succ_mul]; omega
theorem fit_dAsg {M : Nat} {rows : List (List Int)} (h : ∀ row ∈ rows, row.length ≤ 10 ∧ ∀ i ∈ row, i.natAbs ≤ M) (hr : rows.length ≤ 20) : Fit M 2 10000 (dAsg rows) := by
  unfold dAsg
  refine Fit.tup ?_ (by decide) ?_
  · intro d hd
    obtain ⟨row, hrow, rfl⟩ := List.mem_map.mp hd
    have := fit_dI (M := M) (h row hrow).2
    exact ⟨this.ok, by have := this.dp; omega⟩
  · have := wtAll_le (W := 430) (ds := rows.map dI) (by
      intro d hd
      obtain ⟨row, hrow, rfl⟩ := List.mem_map.mp hd
      have := (fit_dI (M := M) (h row hrow).2).wt
      have := (h row hrow).1
      omega)
    rw [List.length_map] at this
    omega
theorem fit_dInst {M : Nat} {cs : List Int} {gs : List Gp} (hc : cs.length ≤ 10 ∧ ∀ i ∈ cs, i.natAbs ≤ M) (hg : gs.length ≤ 20) (h : ∀ g ∈ gs, g.1.length ≤ 10 ∧ (∀ i ∈ g.1, i.natAbs ≤ M) ∧ g.2.natAbs ≤ M) : Fit M 5 20000 (dInst cs gs) := by
  have f1 := fit_dI hc.2
  have f2 : ∀ g ∈ gs, Fit M 2 600 (dGrp g) := by
    intro g hgm
    have f3 := fit_dI (M := M) (h g hgm).2.1
    have hl := (h g hgm).1
    unfold dGrp
    refine Fit.tup ?_ (by decide) ?_
    · intro d hd
      rcases List.mem_cons.mp hd with rfl | hd
      · exact ⟨f3.ok, by have := f3.dp; omega⟩
      · rcases List.mem_cons.mp hd with rfl | hd
        · exact ⟨by simpa only [fit] using (h g hgm).2.2, by simp [PyData.depth]⟩
        · cases hd
    · have := f3.wt
      simp only [wtAll, Pv.wt]; omega
  have f4 : Fit M 3 13000 (.tuple (gs.map dGrp)) := by
    refine Fit.tup ?_ (by decide) ?_
    · intro d hd
      obtain ⟨g, hgm, rfl⟩ := List.mem_map.mp hd
      exact ⟨(f2 g hgm).ok, by have := (f2 g hgm).dp; omega⟩
    · have := wtAll_le (W := 600) (ds := gs.map dGrp) (by
        intro d hd
        obtain ⟨g, hgm, rfl⟩ := List.mem_map.mp hd
        exact (f2 g hgm).wt)
      rw [List.length_map] at this
      omega
  unfold dInst
  refine Fit.tup ?_ (by decide) ?_
  · intro d hd
    rcases List.mem_cons.mp hd with rfl | hd
    · exact ⟨f1.ok, by have := f1.dp; omega⟩
    · rcases List.mem_cons.mp hd with rfl | hd
      · exact ⟨f4.ok, by have := f4.dp; omega⟩
      · cases hd
  · have h1 := f1.wt
    have h2 := f4.wt
    have := hc.1
    simp only [wtAll]; omega
end Pv

namespace Pv
open PySem PySem.Spec PyProof.Rows L2
def topS (i : Nat) : Stmt := PySem.Challenge.pw_postvote_k03_assignments_judged.main.body.getD i (.Pass ⟨0, 0, 0, 0⟩)
abbrev sDraw : Stmt := topS 10
theorem scDraw : FnScope ["_law_state", "_law_below", "_law_cells", "_law_rests", "_law_turn", "_law_spot", "_law_digit", "_law_mixed"] ["_law_state", "_law_below"] (defScope sDraw) :=
  ⟨rfl, rfl, rfl, by decide +kernel, rfl, by decide +kernel, by decide +kernel⟩
section
variable {P : Program} {w : World} {K : PySem.W.Frag} {mg : Str → Option Value} {base : Heap}
def spDraw : Sp := fun vs H Q _ => ∃ (st c r : Addr) (t : Nat) (m : Int), vs = [.ref st, .int m] ∧ DS H st c r t ∧ t < 1000000 ∧ 0 < m ∧ m ≤ 2 ^ 60 ∧
  ∀ (H' : Hp) (d : Int), 0 ≤ d → d < m → DS H' st c r (t + 1) → Ext st r H H' → Q (.int d) H'
set_option maxHeartbeats 1000000 in
theorem ok_draw {f : Addr} {fd : FuncData} {k : Nat} (F : Fun K "_law_draw" "_law_draw" sDraw f fd) (ml : mg "len" = none) : FnOk P w K mg base CX0 (k + 1) f fd ["_law_state", "_law_below"] spDraw := by
  refine F.ok scDraw (fun vs H Q E h => ?_) (fun cdv A outer s H vs Q E hr h => ?_)
  · obtain ⟨st, c, r, t, m, rfl, _⟩ := h
    rfl
  · obtain ⟨st, c, r, t, m, rfl, hd, ht, hm, hm2, q⟩ := h
    obtain ⟨cells, rests, hc, hrr, hl, hl0, hl1, hnn⟩ := hd.ex
    refine ⟨_, pss_cons (ps_asg (pv 0) (pg_unl rfl (pgs_cons (pg_name (i := 2) scDraw.nd rfl (.inl rfl)) (pgs_cons (pg_name (i := 3) scDraw.nd rfl (.inl rfl)) (pgs_cons (pg_name (i := 4) scDraw.nd rfl (.inl rfl)) pgs_nil)))))
      (pss_cons (ps_set (i := 5) scDraw.nd rfl (.inl rfl) (pe_op op_mod (pv 4) (pe_callB call_len_seq (by rfl) ml PySem.boot_len (pa_cons (pv 2) pa_nil))))
      (pss_cons (ps_asg (pe_op op_add (pv 4) pe_int) (pg_sub (pv 0) pe_int set_list))
      (pss_cons (ps_if (pt_cmpR op_gt (pe_ix ix_list (pv 3) (pv 5) (fun _ _ => rfl)) pe_int (nomark _))
        (pss_cons (ps_set (i := 6) scDraw.nd rfl (.inl rfl) (pe_op op_mod (pe_ix ix_list (pv 3) (pv 5) (fun _ _ => rfl)) (pv 1)))
        (pss_cons (ps_asg (pe_op op_fdivW (pe_ix ix_list (pv 3) (pv 5) (fun _ _ => rfl)) (pv 1)) (pg_sub (pv 3) (pv 5) set_list))
        (pss_one (ps_ret (pv 6))))) pss_nil)
      (pss_cons (ps_set (i := 7) scDraw.nd rfl (.inl rfl) (pe_op op_mod (pe_op op_pow (pe_op op_add (pe_op op_add (pe_op op_mod (pe_ix ix_list (pv 2) (pv 5) (fun _ _ => rfl)) pe_int) (pe_op op_mul pe_int (pv 4))) pe_int) pe_int) pe_int))
      (pss_cons (ps_set (i := 7) scDraw.nd rfl (.inl rfl) (pe_op op_mod (pe_op op_pow (pe_op op_add (pe_op op_add (pv 7) (pe_op op_mul (pe_op op_mul pe_int (pv 4)) (pv 4))) pe_int) pe_int) pe_int))
      (pss_one (ps_ret (pe_op op_mod (pe_op op_fdiv (pv 7) pe_int) (pv 1))))))))), ?_⟩
    -- the unpacking
    refine ⟨.ref st, rfl, st, _, rfl, SqL.of hd.hs, rfl, .ref c, _, rfl, .ref r, _, rfl, .int t, _, rfl, rfl, ?_⟩
    -- spot
    refine ⟨.int t, rfl, .ref c, rfl, c, _, rfl, .inl (SqL.of hc), _, _, rfl, rfl, by rw [List.length_map]; omega, ?_⟩
    have hn : (List.map V.int cells).length = cells.length := List.length_map ..
    have hsp : ((t : Int) % (((List.map V.int cells).length : Nat) : Int)) = ((t % cells.length : Nat) : Int) := by rw [hn]; norm_cast
    have hlt : t % cells.length < cells.length := Nat.mod_lt _ hl0
    generalize hj : t % cells.length = j at hsp hlt
    obtain ⟨x, hx⟩ : ∃ x, rests[j]? = some x := ⟨rests[j], List.getElem?_eq_getElem (by omega)⟩
    obtain ⟨y, hy⟩ : ∃ y, cells[j]? = some y := ⟨cells[j], List.getElem?_eq_getElem (by omega)⟩
    have hx0 : 0 ≤ x := hnn x (List.mem_of_getElem? hx)
    have hxv : (rests.map V.int)[j]? = some (.int x) := by rw [List.getElem?_map, hx]; rfl
    have hyv : (cells.map V.int)[j]? = some (.int y) := by rw [List.getElem?_map, hy]; rfl
    dsimp only
    rw [hsp]
    -- state[2] = turn + 1
    refine ⟨.int t, rfl, _, _, rfl, rfl, .ref st, rfl, st, _, 2, 2, rfl, rfl, hd.hs, rfl, ?_⟩
    have e1 : (upd H st (.lst [.ref c, .ref r, .int ((t : Int) + 1)])) r = some (.lst (rests.map V.int)) := by rw [upd_ne hd.n3.symm]; exact hrr
    have e2 : (upd H st (.lst [.ref c, .ref r, .int ((t : Int) + 1)])) c = some (.lst (cells.map V.int)) := by rw [upd_ne hd.n2.symm]; exact hc
    have ex0 : Ext st r H (upd H st (.lst [.ref c, .ref r, .int ((t : Int) + 1)])) := fun b o h n1 _ => by rw [upd_ne n1]; exact h
    have d0 : DS (upd H st (.lst [.ref c, .ref r, .int ((t : Int) + 1)])) st c r (t + 1) := ⟨upd_same, ⟨cells, rests, e2, e1, hl, hl0, hl1, hnn⟩, hd.n1, hd.n2, hd.n3⟩
    -- if rests[spot] > 0
    refine ⟨.ref r, rfl, .int j, rfl, r, _, _, .int x, rfl, rfl, SqL.of e1, atI_nat hxv, _, _, rfl, rfl, _, rfl, ite2 (fun hgt => ?_) (fun hle => ?_)⟩
    · refine ⟨.ref r, rfl, .int j, rfl, r, _, _, .int x, rfl, rfl, SqL.of e1, atI_nat hxv, .int m, rfl, _, _, rfl, rfl, hm, ?_⟩
      refine ⟨.ref r, rfl, .int j, rfl, r, _, _, .int x, rfl, rfl, SqL.of e1, atI_nat hxv, .int m, rfl, _, _, rfl, rfl, wide_div (b := 61) hm (by omega) (by decide) (by decide), ?_⟩
      refine ⟨.ref r, rfl, .int j, rfl, r, _, _, j, rfl, rfl, e1, ?_, ?_⟩
      · unfold ixN
        rw [if_pos (by omega), if_pos (by rw [List.length_map]; omega)]
        simp
      · refine ⟨_, rfl, q _ _ (Int.emod_nonneg _ (by omega)) (Int.emod_lt_of_pos _ hm) ?_ ?_⟩
        · refine ⟨by rw [upd_ne hd.n3]; exact upd_same, ⟨cells, rests.set j (x / m), by rw [upd_ne hd.n1]; exact e2, by rw [upd_same, List.map_set], by rw [List.length_set]; exact hl, hl0, hl1, ?_⟩, hd.n1, hd.n2, hd.n3⟩
          intro z hz
          rcases List.mem_or_eq_of_mem_set hz with h | h
          · exact hnn z h
          · rw [h]; exact Int.ediv_nonneg hx0 (by omega)
        · exact fun b o h n1 n2 => by rw [upd_ne n2]; exact ex0 b o h n1 n2
    · -- mixed
      have hy1 : 0 ≤ y % 2147483629 := Int.emod_nonneg _ (by decide)
      have hy2 : y % 2147483629 < 2147483629 := Int.emod_lt_of_pos _ (by decide)
      refine ⟨.ref c, rfl, .int j, rfl, c, _, _, .int y, rfl, rfl, SqL.of e2, atI_nat hyv, _, _, rfl, rfl, (by show (0 : Int) < 2147483629; decide), .int t, rfl, _, _, rfl, rfl, .inl ⟨by decide, by decide⟩, _, _, rfl, rfl, _, _, rfl, rfl, _, _, rfl, rfl, ⟨by decide, by decide, by omega⟩, _, _, rfl, rfl, (by show (0 : Int) < 2147483587; decide), ?_⟩
      dsimp only
      generalize hu : (y % 2147483629 + 48271 * (t : Int) + 811) ^ (3 : Int).toNat % 2147483587 = u
      have hu1 : 0 ≤ u := by rw [← hu]; exact Int.emod_nonneg _ (by decide)
      have hu2 : u < 2147483587 := by rw [← hu]; exact Int.emod_lt_of_pos _ (by decide)
      have htt : 69621 * (t : Int) * (t : Int) ≤ 69621 * 1000000 * 1000000 := by
        have a1 : (t : Int) * (t : Int) ≤ 1000000 * 1000000 := Int.mul_le_mul (by omega) (by omega) (by omega) (by omega)
        rw [Int.mul_assoc]; omega
      have htt0 : 0 ≤ 69621 * (t : Int) * (t : Int) := Int.mul_nonneg (by omega) (by omega)
      refine ⟨.int u, rfl, .int t, rfl, _, _, rfl, rfl, .inl ⟨by decide, by decide⟩, .int t, rfl, _, _, rfl, rfl, .inl ⟨by omega, by omega⟩, _, _, rfl, rfl, _, _, rfl, rfl, _, _, rfl, rfl, ⟨by decide, by decide, by omega⟩, _, _, rfl, rfl, (by show (0 : Int) < 2147483647; decide), ?_⟩
      refine ⟨_, rfl, _, _, rfl, rfl, ⟨by decide, by decide⟩, .int m, rfl, _, _, rfl, rfl, hm, ?_⟩
      exact q _ _ (Int.emod_nonneg _ (by omega)) (Int.emod_lt_of_pos _ hm) d0 ex0
end
end Pv

namespace Pv
open PySem PySem.Spec PyProof.Rows L2
theorem samePut {H H1 : Hp} {D : Addr} {o : HO} (s : Same H H1) (nD : H D = none) : Same H (upd H1 D o) := fun b z e => by rw [upd_ne (ne_of_none e nD)]; exact s b z e
theorem ty_sq {K : PySem.W.Frag} {H : Hp} {a : Addr} {xs : List V} (h : SqT K H a xs) : TyX K H (.ref a) (.type "tuple") := by
  rcases h with (h | ⟨o, h⟩) | ⟨o, its, n, h, hc, _⟩
  · exact .base (.tup h)
  · exact .fTuple h
  · exact .kTuple h hc
theorem small {n : Nat} (h : n ≤ 1000000) : n < sizeLine := Nat.lt_of_le_of_lt h (by decide)

abbrev sWhole : Stmt := topS 1
abbrev sWithin : Stmt := topS 2
abbrev sTupOf : Stmt := topS 3
abbrev sSp : Stmt := topS 4
theorem scWhole : FnScope ["value"] ["value"] (defScope sWhole) := ⟨rfl, rfl, rfl, by decide +kernel, rfl, by decide +kernel, by decide +kernel⟩
theorem scWithin : FnScope ["value", "least", "most"] ["value", "least", "most"] (defScope sWithin) := ⟨rfl, rfl, rfl, by decide +kernel, rfl, by decide +kernel, by decide +kernel⟩
theorem scTupOf : FnScope ["value", "least", "most"] ["value", "least", "most"] (defScope sTupOf) := ⟨rfl, rfl, rfl, by decide +kernel, rfl, by decide +kernel, by decide +kernel⟩
theorem scSp : FnScope ["value", "size", "total", "number"] ["value", "size", "total"] (defScope sSp) := ⟨rfl, rfl, rfl, by decide +kernel, rfl, by decide +kernel, by decide +kernel⟩
/-! what a value is, by its data -/
def wholeD (d : PyData) : Bool := isInt d && !isBool d
def withinD (a b : Int) : PyData → Bool
  | .int i => decide (a ≤ i ∧ i ≤ b)
  | _ => false
def tupOfD (a b : Int) : PyData → Bool
  | .tuple ds => decide (a ≤ (ds.length : Int) ∧ (ds.length : Int) ≤ b)
  | _ => false
def intsAll : List PyData → Option (List Int)
  | [] => some []
  | .int i :: r => (intsAll r).map (i :: ·)
  | _ :: _ => none
def intsOf : PyData → Option (List Int)
  | .tuple ds => intsAll ds
  | _ => none
theorem intsAll_ints : ∀ row : List Int, intsAll (row.map PyData.int) = some row
  | [] => rfl
  | i :: r => by simp [intsAll, intsAll_ints r]
theorem intsAll_eq : ∀ {ds : List PyData} {row : List Int}, intsAll ds = some row → ds = row.map PyData.int
  | [], row, h => by simp [intsAll] at h; subst h; rfl
  | d :: ds, row, h => by
    cases d <;> simp [intsAll] at h
    obtain ⟨r, h1, rfl⟩ := h
    rw [intsAll_eq h1]; rfl
theorem within_ints : ∀ {ds : List PyData} {a b : Int}, ds.all (withinD a b) = true → ∃ row : List Int, ds = row.map PyData.int ∧ row.all (fun x => decide (a ≤ x ∧ x ≤ b)) = true
  | [], _, _, _ => ⟨[], rfl, rfl⟩
  | d :: ds, a, b, h => by
    rw [List.all_cons, Bool.and_eq_true] at h
    obtain ⟨row, e, h2⟩ := within_ints h.2
    cases d with
    | int i => exact ⟨i :: row, by rw [e]; rfl, by rw [List.all_cons, Bool.and_eq_true]; exact ⟨h.1, h2⟩⟩
    | _ => simp [withinD] at h
def shareOk (n : Int) (row : List Int) : Bool := row.all (fun x => decide (0 ≤ x ∧ x ≤ n)) && decide (row.sum = n)
def shareD (gp : Gp) (d : PyData) : Bool := match intsOf d with
  | some row => decide (row.length = gp.1.length + 1) && shareOk gp.2 row
  | none => false
theorem shareD_dI (gp : Gp) (row : List Int) : shareD gp (dI row) = (decide (row.length = gp.1.length + 1) && shareOk gp.2 row) := by
  simp [shareD, dI, intsOf, intsAll_ints]
def splitD (n t : Int) (d : PyData) : Bool := match intsOf d with
  | some row => decide ((row.length : Int) = n) && shareOk t row
  | none => false
theorem split_share (gp : Gp) (d : PyData) : splitD ((gp.1.length : Int) + 1) gp.2 d = shareD gp d := by
  unfold splitD shareD
  cases intsOf d with
  | none => rfl
  | some row =>
    simp only
    congr 1
    by_cases h : row.length = gp.1.length + 1
    · rw [decide_eq_true h, decide_eq_true (by omega)]
    · rw [decide_eq_false h, decide_eq_false (by omega)]
section
variable {P : Program} {w : World} {K : PySem.W.Frag} {mg : Str → Option Value} {base : Heap}
def spWhole (K : PySem.W.Frag) : Sp := fun vs H Q _ => ∃ (st r : Addr) (v : V) (d : PyData), vs = [v] ∧ Dq K st r H v d ∧ Q (.bl (wholeD d)) H
theorem ok_whole {f : Addr} {fd : FuncData} {k : Nat} (F : Fun K "is_whole" "is_whole" sWhole f fd) (mi : mg "isinstance" = none) (mint : mg "int" = none) (mb : mg "bool" = none) :
    FnOk P w K mg base CX0 (k + 1) f fd ["value"] (spWhole K) := by
  refine F.ok scWhole (fun vs H Q E h => ?_) (fun cdv A outer s H vs Q E hr h => ?_)
  · obtain ⟨st, r, v, d, rfl, _⟩ := h; rfl
  · obtain ⟨st, r, v, d, rfl, hd, q⟩ := h
    refine ⟨_, pss_one (ps_ret (pe_and (pe_callB call_isi (by rfl) mi (by decide +kernel) (pa_cons (pv 0) (pa_cons (pe_bltn (v := .ty "int") (by rfl) mint (by decide +kernel) rfl) pa_nil)))
      (pe_one (pe_not (pe_callB call_isi (by rfl) mi (by decide +kernel) (pa_cons (pv 0) (pa_cons (pe_bltn (v := .ty "bool") (by rfl) mb (by decide +kernel) rfl) pa_nil))))))), ?_⟩
    refine ⟨v, rfl, v, .ty "int", _, _, _, rfl, .ty _, hd.ty, kit_int d, _, rfl, ite2 (fun h1 => ?_) (fun h1 => ?_)⟩
    · refine ⟨v, rfl, v, .ty "bool", _, _, _, rfl, .ty _, hd.ty, kit_bool d, _, rfl, ?_⟩
      unfold wholeD at q
      rw [h1, Bool.true_and] at q
      exact q
    · unfold wholeD at q
      rw [Bool.eq_false_iff.mpr h1, Bool.false_and] at q
      exact q
def spWithin (K : PySem.W.Frag) : Sp := fun vs H Q _ => ∃ (st r : Addr) (v : V) (d : PyData) (a b : Int), vs = [v, .int a, .int b] ∧ Dq K st r H v d ∧ Q (.bl (withinD a b d)) H
theorem ok_within {f fW : Addr} {fd fdW : FuncData} {k : Nat} (F : Fun K "is_within" "is_within" sWithin f fd) (FW : Fun K "is_whole" "is_whole" sWhole fW fdW) (bW : Binds K fdW ["value"] []) (gW : mg "is_whole" = some (.ref fW))
    (GW : FnOk P w K mg base CX0 1 fW fdW ["value"] (spWhole K)) : FnOk P w K mg base CX0 (1 + k + 1) f fd ["value", "least", "most"] (spWithin K) := by
  refine F.ok scWithin (fun vs H Q E h => ?_) (fun cdv A outer s H vs Q E hr h => ?_)
  · obtain ⟨st, r, v, d, a, b, rfl, _⟩ := h; rfl
  · obtain ⟨st, r, v, d, a, b, rfl, hd, q⟩ := h
    refine ⟨_, pss_one (ps_ret (pe_and (pe_call GW (hr.mono (by omega)) (by rfl) gW FW.kp bW .nil pass0 (pa_cons (pv 0) pa_nil)) (pe_one (pe_chain op_le op_le (pv 1) (pv 0) (pv 2))))), ?_⟩
    refine ⟨v, rfl, st, r, v, d, rfl, hd, _, rfl, ite2 (fun h1 => ?_) (fun h1 => ?_)⟩
    · cases d with
      | int i =>
        cases hd
        refine ⟨.int a, rfl, .int i, rfl, _, _, rfl, rfl, _, rfl, ite2 (fun h2 => ?_) (fun h2 => ?_)⟩
        · refine ⟨.int b, rfl, _, _, rfl, rfl, ?_⟩
          have h2' : a ≤ i := of_decide_eq_true h2
          simpa [withinD, h2'] using q
        · have h2' : ¬ a ≤ i := fun z => h2 (decide_eq_true z)
          simpa [withinD, h2'] using q
      | _ => simp [wholeD, isInt, isBool] at h1
    · cases d with
      | int i => simp [wholeD, isInt, isBool] at h1
      | _ => exact q
def spTupOf (K : PySem.W.Frag) : Sp := fun vs H Q _ => ∃ (st r : Addr) (v : V) (d : PyData) (a b : Int), vs = [v, .int a, .int b] ∧ Dq K st r H v d ∧ Q (.bl (tupOfD a b d)) H
theorem ok_tupOf {f : Addr} {fd : FuncData} {k : Nat} (F : Fun K "is_tuple_of" "is_tuple_of" sTupOf f fd) (mi : mg "isinstance" = none) (mt : mg "tuple" = none) (ml : mg "len" = none) :
    FnOk P w K mg base CX0 (k + 1) f fd ["value", "least", "most"] (spTupOf K) := by
  refine F.ok scTupOf (fun vs H Q E h => ?_) (fun cdv A outer s H vs Q E hr h => ?_)
  · obtain ⟨st, r, v, d, a, b, rfl, _⟩ := h; rfl
  · obtain ⟨st, r, v, d, a, b, rfl, hd, q⟩ := h
    refine ⟨_, pss_one (ps_ret (pe_and (pe_callB call_isi (by rfl) mi (by decide +kernel) (pa_cons (pv 0) (pa_cons (pe_bltn (v := .ty "tuple") (by rfl) mt (by decide +kernel) rfl) pa_nil)))
      (pe_one (pe_chain op_le op_le (pv 1) (pe_callB call_len_seq (by rfl) ml PySem.boot_len (pa_cons (pv 0) pa_nil)) (pv 2))))), ?_⟩
    refine ⟨v, rfl, v, .ty "tuple", _, _, _, rfl, .ty _, hd.ty, kit_tup d, _, rfl, ite2 (fun h1 => ?_) (fun h1 => ?_)⟩
    · cases d with
      | tuple ds =>
        cases hd with
        | @tup p xs _ hT ha =>
          refine ⟨.int a, rfl, .ref p, rfl, p, xs, rfl, .inr hT, _, _, rfl, rfl, _, rfl, ite2 (fun h2 => ?_) (fun h2 => ?_)⟩
          · refine ⟨.int b, rfl, _, _, rfl, rfl, ?_⟩
            have h2' : a ≤ (xs.length : Int) := of_decide_eq_true h2
            simpa [tupOfD, ← DqAll.len ha, h2'] using q
          · have h2' : ¬ a ≤ (xs.length : Int) := fun z => h2 (decide_eq_true z)
            simpa [tupOfD, ← DqAll.len ha, h2'] using q
      | _ => simp [isTup] at h1
    · cases d with
      | tuple ds => simp [isTup] at h1
      | _ => exact q
theorem splitD_not {n t : Int} {d : PyData} (h : tupOfD n n d = false) : splitD n t d = false := by
  cases e : intsOf d with
  | none => simp [splitD, e]
  | some row =>
    cases d with
    | tuple ds =>
      have e' : intsAll ds = some row := e
      rw [intsAll_eq e'] at h
      simp only [tupOfD, List.length_map, decide_eq_false_iff_not] at h
      have : ¬ (row.length : Int) = n := by omega
      simp [splitD, e, this]
    | _ => simp [intsOf] at e
theorem splitD_out {n t : Int} {ds : List PyData} (h : ds.all (withinD 0 t) = false) : splitD n t (.tuple ds) = false := by
  cases e : intsAll ds with
  | none => simp [splitD, intsOf, e]
  | some row =>
    have e' := intsAll_eq e
    rw [e', List.all_map] at h
    have : row.all (fun x => decide (0 ≤ x ∧ x ≤ t)) = false := h
    simp only [splitD, intsOf, e, shareOk, this, Bool.false_and, Bool.and_false]
theorem splitD_dI (n t : Int) (row : List Int) : splitD n t (dI row) = (decide ((row.length : Int) = n) && shareOk t row) := by
  simp [splitD, dI, intsOf, intsAll_ints]
def rSumT (K : PySem.W.Frag) : RC := fun xs H Q => ∃ (a : Addr) (ns : List Int), xs = [.ref a] ∧ SqT K H a (ns.map V.int) ∧ Q (.int ns.sum) H
theorem call_sumTQ {X : Cx} (hc : X.calm = true) : CallR X (.builtin "sum") (rSumT X.K) := call_sumT hc
def spSplit (K : PySem.W.Frag) : Sp := fun vs H Q _ => ∃ (st r : Addr) (v : V) (d : PyData) (n t : Int), vs = [v, .int n, .int t] ∧ Dq K st r H v d ∧ n ≤ 1000 ∧ ∀ H', Same H H' → Q (.bl (splitD n t d)) H'
theorem ok_Sp {f fTo fWi : Addr} {fd fdTo fdWi : FuncData} (F : Fun K "is_split" "is_split" sSp f fd)
    (FTo : Fun K "is_tuple_of" "is_tuple_of" sTupOf fTo fdTo) (bTo : Binds K fdTo ["value", "least", "most"] []) (gTo : mg "is_tuple_of" = some (.ref fTo)) (GTo : FnOk P w K mg base CX0 1 fTo fdTo ["value", "least", "most"] (spTupOf K))
    (FWi : Fun K "is_within" "is_within" sWithin fWi fdWi) (bWi : Binds K fdWi ["value", "least", "most"] []) (gWi : mg "is_within" = some (.ref fWi)) (GWi : FnOk P w K mg base CX0 2 fWi fdWi ["value", "least", "most"] (spWithin K))
    (m_all : mg "all" = none) (m_sum : mg "sum" = none) :
    FnOk P w K mg base CX0 3 f fd ["value", "size", "total"] (spSplit K) := by
  refine F.ok scSp (fun vs H Q E h => ?_) (fun cdv A outer s H vs Q E hr h => ?_)
  · obtain ⟨st, r, v, d, n, t, rfl, _⟩ := h; rfl
  · obtain ⟨st, r, v, d, n, t, rfl, hv, hlen, q⟩ := h
    refine ⟨_, pss_cons (ps_if (pt_not (pt_val (pe_call GTo (hr.mono (by omega)) (by rfl) gTo FTo.kp bTo .nil pass0 (pa_cons (pv 0) (pa_cons (pv 1) (pa_cons (pv 1) pa_nil))))))
        (pss_one (ps_ret (pe_bl))) pss_nil)
      (pss_one (ps_ret (pe_and (pe_callB (cr_all rfl) (by rfl) m_all (by decide +kernel) (pa_cons (pe_lc (own := [("number", 3)]) (g := gName 3) (tt := tYes) (te := tCall (spWithin K) [] E0 (tCons (tVar 3) (tCons (tC (.int 0)) (tCons (tVar 2) tNil)))) rfl scSp.nd (pi_tup (pv 0)) (blkOk_by (N := ["value", "size", "total", "number"]) (sc := defScope sSp) (by decide +kernel)) (fun _ _ _ _ _ => pg_name (i := 3) scSp.nd rfl (.inl rfl)) (fun _ _ _ _ _ => pts_nil) (fun _ _ _ _ _ => pe_call GWi (hr.mono (by omega)) (by rfl) gWi FWi.kp bWi .nil pass0 (pa_cons (pv 3) (pa_cons (pe_int) (pa_cons (pv 2) pa_nil))))) pa_nil)) (pe_one (pe_cmpR op_eq (pe_callB (call_sumTQ rfl) (by rfl) m_sum (by decide +kernel) (pa_cons (pv 0) pa_nil)) (pv 2) (nomark _)))))), ?_⟩
    refine ⟨v, rfl, .int n, rfl, .int n, rfl, st, r, v, d, _, _, rfl, hv, ?_⟩
    cases hb : tupOfD n n d with
    | false =>
      refine ⟨_, rfl, iteT ?_⟩
      have := q H (Same.refl H)
      rw [splitD_not hb] at this
      exact this
    | true =>
      refine ⟨_, rfl, iteF ?_⟩
      cases d with
      | tuple ds =>
        cases hv with
        | @tup va xs _ hV ha =>
          have hl := DqAll.len ha
          have hdl : (ds.length : Int) = n := by
            have := of_decide_eq_true hb
            omega
          refine ⟨.ref va, rfl, va, rfl, ⟨_, hV⟩, fun D nD => lc_tup (xs := xs)
            (fun i H2 => Same H H2 ∧ H2 D = some (.lst (((ds.take i).map (withinD 0 t)).map V.bl))) ⟨sameNew nD, upd_same⟩ (fun i H2 _ h2 => (TupK.of h2.1).sq hV) ?_ ?_⟩
          · rintro i x H2 hx ⟨s2, e2⟩
            obtain ⟨dx, hdx, hxd⟩ := DqAll.at ha hx
            have hil : i < ds.length := (List.getElem?_eq_some_iff.mp hdx).1
            refine ⟨rfl, x, rfl, .int t, rfl, st, r, x, dx, 0, t, rfl, hxd.lasts (.of s2), _, e2, ?_, samePut s2 nD, ?_⟩
            · rw [List.length_map, List.length_map, List.length_take]; exact small (by omega)
            · rw [upd_same, List.take_add_one, hdx]; simp
          · rintro H2 ⟨s2, e2⟩
            rw [hl, List.take_length] at e2
            refine ⟨D, _, rfl, SqL.of e2, _, rfl, ite2 (fun h1 => ?_) (fun h1 => ?_)⟩
            · rw [List.all_map] at h1
              obtain ⟨row, er, hrow⟩ := within_ints (show ds.all (withinD 0 t) = true from h1)
              subst er
              have hdp : DpAll K H xs (row.map PyData.int) := DqAll.to_dp (to_ints row) ha
              have hxs := DpAll.ints hdp
              subst hxs
              refine ⟨.ref va, rfl, va, row, rfl, (TupK.of s2).sq hV, .int t, rfl, rfl, ?_⟩
              have e : splitD n t (.tuple (row.map PyData.int)) = decide (V.int row.sum = V.int t) := by
                have e1 := splitD_dI n t row
                unfold dI at e1
                rw [e1]
                rw [List.length_map] at hdl
                unfold shareOk
                rw [hrow, decide_eq_true hdl, Bool.true_and, Bool.true_and]
                simp
              have := q H2 s2
              rw [e] at this
              exact this
            · rw [List.all_map] at h1
              have h2 := Bool.eq_false_iff.mpr h1
              have := q H2 s2
              rw [splitD_out (show ds.all (withinD 0 t) = false from h2)] at this
              have e3 : (List.map (withinD 0 t) ds).all id = false := by rw [List.all_map]; exact h2
              first | exact this | (rw [e3]; exact this)
      | _ => simp [tupOfD] at hb
/-! loads -/
def addAt (ls : List Int) (p x : Int) : List Int := ls.set p.toNat (ls.getD p.toNat 0 + x)
def rowLoads (ls : List Int) (ps row : List Int) : List Int := (ps.zip row).foldl (fun l q => addAt l q.1 q.2) ls
def loadsFrom (ls : List Int) (gs : List Gp) (rows : List (List Int)) : List Int := (gs.zip rows).foldl (fun l q => rowLoads l q.1.1 q.2) ls
theorem addAt_len (ls : List Int) (p x : Int) : (addAt ls p x).length = ls.length := by simp [addAt]
theorem rowLoads_len (ps row : List Int) (ls : List Int) : (rowLoads ls ps row).length = ls.length := by
  unfold rowLoads
  generalize ps.zip row = z
  induction z generalizing ls with
  | nil => rfl
  | cons q z ih => rw [List.foldl_cons, ih, addAt_len]
theorem rowLoads_take {ls ps row : List Int} {i : Nat} {p x : Int} (hp : ps[i]? = some p) (hx : row[i]? = some x) : rowLoads ls (ps.take (i + 1)) (row.take (i + 1)) = addAt (rowLoads ls (ps.take i) (row.take i)) p x := by
  have h1 : ps.take (i + 1) = ps.take i ++ [p] := by rw [List.take_add_one, hp]; rfl
  have h2 : row.take (i + 1) = row.take i ++ [x] := by rw [List.take_add_one, hx]; rfl
  have l1 := (List.getElem?_eq_some_iff.mp hp).1
  have l2 := (List.getElem?_eq_some_iff.mp hx).1
  unfold rowLoads
  rw [h1, h2, List.zip_append (by rw [List.length_take, List.length_take]; omega), List.foldl_append]
  rfl
theorem loadsFrom_take {ls : List Int} {gs : List Gp} {rows : List (List Int)} {i : Nat} {g : Gp} {row : List Int} (hp : gs[i]? = some g) (hx : rows[i]? = some row) :
    loadsFrom ls (gs.take (i + 1)) (rows.take (i + 1)) = rowLoads (loadsFrom ls (gs.take i) (rows.take i)) g.1 row := by
  have h1 : gs.take (i + 1) = gs.take i ++ [g] := by rw [List.take_add_one, hp]; rfl
  have h2 : rows.take (i + 1) = rows.take i ++ [row] := by rw [List.take_add_one, hx]; rfl
  have l1 := (List.getElem?_eq_some_iff.mp hp).1
  have l2 := (List.getElem?_eq_some_iff.mp hx).1
  unfold loadsFrom
  rw [h1, h2, List.zip_append (by rw [List.length_take, List.length_take]; omega), List.foldl_append]
  rfl
theorem loadsFrom_len (gs : List Gp) (rows : List (List Int)) (ls : List Int) : (loadsFrom ls gs rows).length = ls.length := by
  unfold loadsFrom
  generalize gs.zip rows = z
  induction z generalizing ls with
  | nil => rfl
  | cons q z ih => rw [List.foldl_cons, ih, rowLoads_len]
end
end Pv

namespace Pv
open PySem PySem.Spec PyProof.Rows L2
theorem freeOf {H : Hp} {p b : Addr} {o : HO} (h : upd H p o b = none) : H b = none := by
  by_cases e : b = p
  · subst e; rw [upd_same] at h; cases h
  · rw [upd_ne e] at h; exact h
theorem ixN_nat {n j : Nat} (h : j < n) : ixN n (j : Int) = some j := by
  unfold ixN
  rw [if_pos (by omega), if_pos (by omega)]
  simp
theorem zip_take {α β : Type} : ∀ (n : Nat) (a : List α) (b : List β), (a.take n).zip (b.take n) = (a.zip b).take n
  | 0, _, _ => by simp
  | _ + 1, [], _ => by simp
  | _ + 1, _ :: _, [] => by simp
  | n + 1, x :: a, y :: b => by simp [zip_take n a b]
theorem rowLoads_all (ls ps row : List Int) : rowLoads ls (ps.take (min ps.length row.length)) (row.take (min ps.length row.length)) = rowLoads ls ps row := by
  unfold rowLoads
  rw [zip_take, List.take_of_length_le (by rw [List.length_zip]; exact Nat.le_refl _)]
theorem loadsFrom_all (ls : List Int) (gs : List Gp) (rows : List (List Int)) : loadsFrom ls (gs.take (min gs.length rows.length)) (rows.take (min gs.length rows.length)) = loadsFrom ls gs rows := by
  unfold loadsFrom
  rw [zip_take, List.take_of_length_le (by rw [List.length_zip]; exact Nat.le_refl _)]
def InR (n : Nat) (gs : List Gp) : Prop := ∀ g ∈ gs, g.1.length ≤ 1000 ∧ ∀ p ∈ g.1, 0 ≤ p ∧ p < (n : Int)
def zeros (n : Nat) : List Int := List.replicate n 0
def loadsOf (n : Nat) (gs : List Gp) (rows : List (List Int)) : List Int := loadsFrom (zeros n) gs rows
theorem zeros_V (n : Nat) : (List.replicate n [V.int 0]).flatten = (zeros n).map V.int := by
  unfold zeros
  induction n with
  | zero => rfl
  | succ n ih => rw [List.replicate_succ, List.flatten_cons, ih]; rfl

abbrev sLoads : Stmt := topS 7
abbrev sLLoads : Stmt := topS 18
theorem scLoads : FnScope ["instance", "assignment", "loads", "group", "share", "post", "number"] ["instance", "assignment"] (defScope sLoads) := ⟨rfl, rfl, rfl, by decide +kernel, rfl, by decide +kernel, by decide +kernel⟩
theorem scLLoads : FnScope ["_law_instance_here", "_law_assignment_here", "_law_found", "_law_posts", "_law_count", "_law_numbers", "_law_post", "_law_number"] ["_law_instance_here", "_law_assignment_here"] (defScope sLLoads) := ⟨rfl, rfl, rfl, by decide +kernel, rfl, by decide +kernel, by decide +kernel⟩
section
variable {P : Program} {w : World} {K : PySem.W.Frag} {mg : Str → Option Value} {base : Heap}
def spLoads (K : PySem.W.Frag) : Sp := fun vs H Q _ => ∃ (i a : Addr) (cs : List Int) (gs : List Gp) (rows : List (List Int)), vs = [.ref i, .ref a] ∧ Dp K H (.ref i) (dInst cs gs) ∧ Dp K H (.ref a) (dAsg rows) ∧
  cs.length ≤ 1000 ∧ InR cs.length gs ∧ ∀ H' p, Same H H' → Dp K H' (.ref p) (dI (loadsOf cs.length gs rows)) → Q (.ref p) H'
set_option maxHeartbeats 2000000 in
theorem ok_loads {f : Addr} {fd : FuncData} {k : Nat} (F : Fun K "post_loads" "post_loads" sLoads f fd) (ml : mg "len" = none) (mz : mg "zip" = none) (mt : mg "tuple" = none) :
    FnOk P w K mg base CX0 (k + 1) f fd ["instance", "assignment"] (spLoads K) := by
  refine F.ok scLoads (fun vs H Q E h => ?_) (fun cdv A outer s H vs Q E hr h => ?_)
  · obtain ⟨i, a, cs, gs, rows, rfl, _⟩ := h; rfl
  · obtain ⟨i, a, cs, gs, rows, rfl, hI, hA, hcs, hin, q⟩ := h
    refine ⟨_, pss_cons (ps_set (i := 2) scLoads.nd rfl (.inl rfl) (pe_op op_rep (pe_lst (pa_cons pe_int pa_nil)) (pe_callB call_len_seq (by rfl) ml PySem.boot_len (pa_cons (pe_ix ix_tup (pv 0) pe_int (fun _ _ => rfl)) pa_nil))))
      (pss_cons (ps_for PassesOwn.never rfl (RZ.pi_zipA (by rfl) mz (pa_cons (pe_ix ix_tup (pv 0) pe_int (fun _ _ => rfl)) (pa_cons (pv 1) pa_nil)))
          (pg_tup rfl (pgs_cons (pg_name (i := 3) scLoads.nd rfl (.inl rfl)) (pgs_cons (pg_name (i := 4) scLoads.nd rfl (.inl rfl)) pgs_nil)))
          (pss_one (ps_for PassesOwn.never rfl (RZ.pi_zipA (by rfl) mz (pa_cons (pe_ix ix_tup (pv 3) pe_int (fun _ _ => rfl)) (pa_cons (pv 4) pa_nil)))
            (pg_tup rfl (pgs_cons (pg_name (i := 5) scLoads.nd rfl (.inl rfl)) (pgs_cons (pg_name (i := 6) scLoads.nd rfl (.inl rfl)) pgs_nil)))
            (pss_one (ps_augS (pv 2) (pv 5) get_list (pv 6) ip_add set_list)))))
      (pss_one (ps_ret (pe_callTy call_tuple_of (by rfl) mt (by decide +kernel) (pa_cons (pv 2) pa_nil))))), ?_⟩
    obtain ⟨_, ca, ga, xs, e, hi, hc, hg, hgs⟩ := inst_open hI
    cases e
    obtain ⟨_, ys, e, ha, hrows⟩ := asg_open hA
    cases e
    -- loads = [0] * len(instance[0])
    refine ⟨by decide, fun p0 n0 => ⟨.ref i, rfl, i, _, 0, .ref ca, rfl, rfl, (TupK.new n0).sq hi, atI_nat (j := 0) rfl, ca, _, rfl, .inr ((TupK.new n0).sq hc), p0, _, _, rfl, rfl, upd_same, by omega, ?_, ?_, fun L nL => ?_⟩⟩
    · rw [List.length_map]; omega
    · rw [List.length_map]; show 1 * _ ≤ sizeLine; have := small (n := cs.length) (by omega); simp; omega
    have fL : H L = none := freeOf nL
    have s1 : Same H (upd (upd H p0 (.lst [.int 0])) L (.lst (List.replicate ((List.map V.int cs).length : Int).toNat [V.int 0]).flatten)) := samePut (sameNew n0) fL
    -- the groups
    refine ⟨.ref i, rfl, i, _, 1, .ref ga, rfl, rfl, (TupK.of s1).sq hi, atI_nat (j := 1) rfl, .ref a, rfl, ga, a, xs, ys, rfl, .inr ⟨(TupK.of s1).sq hg, (TupK.of s1).sq ha, for_it (walk_zipT (K := K) (a := ga) (b := a) (xs := xs) (ys := ys) rfl)
      (fun i' σ H2 => ∃ y3 y4 y5 y6, σ = [some (.ref i), some (.ref a), some (.ref L), y3, y4, y5, y6] ∧ Same H H2 ∧ H2 L = some (.lst ((loadsFrom (zeros cs.length) (gs.take i') (rows.take i')).map V.int)))
      ⟨none, none, none, none, rfl, s1, ?_⟩ ?_ ?_ ?_⟩⟩
    · rw [upd_same, zeros_V, List.length_map]; simp [loadsFrom]
    · rintro i' σ H2 _ ⟨y3, y4, y5, y6, rfl, s2, e2⟩
      exact ⟨(TupK.of s2).sq hg, (TupK.of s2).sq ha⟩
    · rintro i' v σ H2 H3 hlt ⟨y3, y4, y5, y6, rfl, s2, e2⟩ ⟨T, x, y, rfl, nT, rfl, hx, hy⟩
      have hx' : xs[i']? = some x := hx
      have hy' : ys[i']? = some y := hy
      obtain ⟨d, hd, hxd⟩ := DpAll.at hgs hx'
      rw [List.getElem?_map] at hd
      obtain ⟨g, hgi, rfl⟩ := Option.map_eq_some_iff.mp hd
      obtain ⟨d, hd, hyd⟩ := DpAll.at hrows hy'
      rw [List.getElem?_map] at hd
      obtain ⟨row, hri, rfl⟩ := Option.map_eq_some_iff.mp hd
      have s3 : Same H (upd H2 T (.tup [x, y])) := s2.trans (sameNew nT)
      obtain ⟨gA, pA, rfl, hG, hP⟩ := grp_ref hxd
      obtain ⟨rA, rfl, hR⟩ := dI_ref hyd
      have e3 : (upd H2 T (.tup [.ref gA, .ref rA])) L = some (.lst ((loadsFrom (zeros cs.length) (gs.take i') (rows.take i')).map V.int)) := upNew nT e2
      have tk3 := TupK.of s3
      refine ⟨T, _, rfl, SqT.of upd_same, rfl, _, _, rfl, _, _, rfl, rfl, ?_⟩
      refine ⟨.ref gA, rfl, gA, _, 0, .ref pA, rfl, rfl, tk3.sq hG, atI_nat (j := 0) rfl, .ref rA, rfl, pA, rA, _, _, rfl, .inr ⟨tk3.sq hP, tk3.sq hR, for_it (walk_zipT (K := K) (a := pA) (b := rA) (xs := g.1.map V.int) (ys := row.map V.int) rfl)
        (fun j σ H4 => ∃ y5 y6, σ = [some (.ref i), some (.ref a), some (.ref L), some (.ref gA), some (.ref rA), y5, y6] ∧ Same H H4 ∧
          H4 L = some (.lst ((rowLoads (loadsFrom (zeros cs.length) (gs.take i') (rows.take i')) (g.1.take j) (row.take j)).map V.int)))
        ⟨y5, y6, rfl, s3, by simpa [rowLoads] using e3⟩ ?_ ?_ ?_⟩⟩
      · rintro j σ H4 _ ⟨y5, y6, rfl, s4, e4⟩
        exact ⟨(TupK.of s4).sq hP, (TupK.of s4).sq hR⟩
      · rintro j v σ H4 H5 hltj ⟨y5, y6, rfl, s4, e4⟩ ⟨T2, x, y, rfl, nT2, rfl, hx2, hy2⟩
        have hx2' : (g.1.map V.int)[j]? = some x := hx2
        have hy2' : (row.map V.int)[j]? = some y := hy2
        rw [List.getElem?_map] at hx2' hy2'
        obtain ⟨pp, hpp, rfl⟩ := Option.map_eq_some_iff.mp hx2'
        obtain ⟨nn, hnn, rfl⟩ := Option.map_eq_some_iff.mp hy2'
        have e5 := upNew (o := .tup [.int pp, .int nn]) nT2 e4
        have hpr := (hin g (List.mem_of_getElem? hgi)).2 pp (List.mem_of_getElem? hpp)
        obtain ⟨pn, rfl⟩ : ∃ pn : Nat, pp = pn := ⟨pp.toNat, by omega⟩
        have hrl := rowLoads_take (ls := loadsFrom (zeros cs.length) (gs.take i') (rows.take i')) hpp hnn
        generalize hcur : rowLoads (loadsFrom (zeros cs.length) (gs.take i') (rows.take i')) (g.1.take j) (row.take j) = cur at e4 e5 hrl
        have hcl : cur.length = cs.length := by rw [← hcur, rowLoads_len, loadsFrom_len]; simp [zeros]
        have hpl : pn < cur.length := by omega
        refine ⟨T2, _, rfl, SqT.of upd_same, rfl, _, _, rfl, _, _, rfl, rfl, ?_⟩
        refine ⟨.ref L, rfl, .int pn, rfl, L, _, pn, .int cur[pn], rfl, rfl, SqL.of e5, by rw [List.getElem?_map, List.getElem?_eq_getElem hpl]; rfl, .int nn, rfl, _, _, rfl, rfl, L, _, _, pn, rfl, rfl, e5, ixN_nat (by rw [List.length_map]; exact hpl), ?_⟩
        refine ⟨_, _, rfl, samePut (s4.trans (sameNew nT2)) fL, ?_⟩
        rw [upd_same, hrl]
        unfold addAt
        rw [Int.toNat_natCast, List.getD_eq_getElem?_getD, List.getElem?_eq_getElem hpl, List.map_set]
        rfl
      · rintro σ H4 ⟨y5, y6, rfl, s4, e4⟩
        refine ⟨_, _, _, _, rfl, s4, ?_⟩
        rw [loadsFrom_take hgi hri]
        rw [List.length_map, List.length_map, rowLoads_all] at e4
        exact e4
    · rintro σ H2 ⟨y3, y4, y5, y6, rfl, s2, e2⟩
      rw [DpAll.len hgs, DpAll.len hrows, List.length_map, List.length_map, loadsFrom_all] at e2
      refine ⟨.ref L, rfl, L, _, rfl, .inl ⟨SqL.of e2, fun p np => q _ _ (s2.trans (sameNew np)) (dI_sq (SqT.of upd_same))⟩⟩
end
end Pv

namespace Pv
open PySem PySem.Spec PyProof.Rows L2
section
variable {P : Program} {w : World} {K : PySem.W.Frag} {mg : Str → Option Value} {base : Heap}
def spLLoads (K : PySem.W.Frag) : Sp := fun vs H Q _ => ∃ (i a : Addr) (cs : List Int) (gs : List Gp) (rows : List (List Int)), vs = [.ref i, .ref a] ∧ Dp K H (.ref i) (dInst cs gs) ∧ Dp K H (.ref a) (dAsg rows) ∧
  cs.length ≤ 1000 ∧ InR cs.length gs ∧ ∀ H' p, Same H H' → H' p = some (.lst ((loadsOf cs.length gs rows).map V.int)) → Q (.ref p) H'
set_option maxHeartbeats 2000000 in
theorem ok_lloads {f : Addr} {fd : FuncData} {k : Nat} (F : Fun K "_law_loads" "_law_loads" sLLoads f fd) (ml : mg "len" = none) (mz : mg "zip" = none) :
    FnOk P w K mg base CX0 (k + 1) f fd ["_law_instance_here", "_law_assignment_here"] (spLLoads K) := by
  refine F.ok scLLoads (fun vs H Q E h => ?_) (fun cdv A outer s H vs Q E hr h => ?_)
  · obtain ⟨i, a, cs, gs, rows, rfl, _⟩ := h; rfl
  · obtain ⟨i, a, cs, gs, rows, rfl, hI, hA, hcs, hin, q⟩ := h
    refine ⟨_, pss_cons (ps_set (i := 2) scLLoads.nd rfl (.inl rfl) (pe_op op_rep (pe_lst (pa_cons pe_int pa_nil)) (pe_callB call_len_seq (by rfl) ml PySem.boot_len (pa_cons (pe_ix ix_tup (pv 0) pe_int (fun _ _ => rfl)) pa_nil))))
      (pss_cons (ps_for PassesOwn.never rfl (RZ.pi_zipA (by rfl) mz (pa_cons (pe_ix ix_tup (pv 0) pe_int (fun _ _ => rfl)) (pa_cons (pv 1) pa_nil)))
          (pg_tup rfl (pgs_cons (pg_tup rfl (pgs_cons (pg_name (i := 3) scLLoads.nd rfl (.inl rfl)) (pgs_cons (pg_name (i := 4) scLLoads.nd rfl (.inl rfl)) pgs_nil))) (pgs_cons (pg_name (i := 5) scLLoads.nd rfl (.inl rfl)) pgs_nil)))
          (pss_one (ps_for PassesOwn.never rfl (RZ.pi_zipA (by rfl) mz (pa_cons (pv 3) (pa_cons (pv 5) pa_nil)))
            (pg_tup rfl (pgs_cons (pg_name (i := 6) scLLoads.nd rfl (.inl rfl)) (pgs_cons (pg_name (i := 7) scLLoads.nd rfl (.inl rfl)) pgs_nil)))
            (pss_one (ps_asg (pe_op op_add (pe_ix ix_list (pv 2) (pv 6) (fun _ _ => rfl)) (pv 7)) (pg_sub (pv 2) (pv 6) set_list))))))
      (pss_one (ps_ret (pv 2)))), ?_⟩
    obtain ⟨_, ca, ga, xs, e, hi, hc, hg, hgs⟩ := inst_open hI
    cases e
    obtain ⟨_, ys, e, ha, hrows⟩ := asg_open hA
    cases e
    -- loads = [0] * len(instance[0])
    refine ⟨by decide, fun p0 n0 => ⟨.ref i, rfl, i, _, 0, .ref ca, rfl, rfl, (TupK.new n0).sq hi, atI_nat (j := 0) rfl, ca, _, rfl, .inr ((TupK.new n0).sq hc), p0, _, _, rfl, rfl, upd_same, by omega, ?_, ?_, fun L nL => ?_⟩⟩
    · rw [List.length_map]; omega
    · rw [List.length_map]; show 1 * _ ≤ sizeLine; have := small (n := cs.length) (by omega); simp; omega
    have fL : H L = none := freeOf nL
    have s1 : Same H (upd (upd H p0 (.lst [.int 0])) L (.lst (List.replicate ((List.map V.int cs).length : Int).toNat [V.int 0]).flatten)) := samePut (sameNew n0) fL
    -- the groups
    refine ⟨.ref i, rfl, i, _, 1, .ref ga, rfl, rfl, (TupK.of s1).sq hi, atI_nat (j := 1) rfl, .ref a, rfl, ga, a, xs, ys, rfl, .inr ⟨(TupK.of s1).sq hg, (TupK.of s1).sq ha, for_it (walk_zipT (K := K) (a := ga) (b := a) (xs := xs) (ys := ys) rfl)
      (fun i' σ H2 => ∃ y3 y4 y5 y6 y7, σ = [some (.ref i), some (.ref a), some (.ref L), y3, y4, y5, y6, y7] ∧ Same H H2 ∧ H2 L = some (.lst ((loadsFrom (zeros cs.length) (gs.take i') (rows.take i')).map V.int)))
      ⟨none, none, none, none, none, rfl, s1, ?_⟩ ?_ ?_ ?_⟩⟩
    · rw [upd_same, zeros_V, List.length_map]; simp [loadsFrom]
    · rintro i' σ H2 _ ⟨y3, y4, y5, y6, y7, rfl, s2, e2⟩
      exact ⟨(TupK.of s2).sq hg, (TupK.of s2).sq ha⟩
    · rintro i' v σ H2 H3 hlt ⟨y3, y4, y5, y6, y7, rfl, s2, e2⟩ ⟨T, x, y, rfl, nT, rfl, hx, hy⟩
      have hx' : xs[i']? = some x := hx
      have hy' : ys[i']? = some y := hy
      obtain ⟨d, hd, hxd⟩ := DpAll.at hgs hx'
      rw [List.getElem?_map] at hd
      obtain ⟨g, hgi, rfl⟩ := Option.map_eq_some_iff.mp hd
      obtain ⟨d, hd, hyd⟩ := DpAll.at hrows hy'
      rw [List.getElem?_map] at hd
      obtain ⟨row, hri, rfl⟩ := Option.map_eq_some_iff.mp hd
      have s3 : Same H (upd H2 T (.tup [x, y])) := s2.trans (sameNew nT)
      obtain ⟨gA, pA, rfl, hG, hP⟩ := grp_ref hxd
      obtain ⟨rA, rfl, hR⟩ := dI_ref hyd
      have e3 : (upd H2 T (.tup [.ref gA, .ref rA])) L = some (.lst ((loadsFrom (zeros cs.length) (gs.take i') (rows.take i')).map V.int)) := upNew nT e2
      have tk3 := TupK.of s3
      refine ⟨T, _, rfl, SqT.of upd_same, rfl, _, _, rfl, gA, _, rfl, tk3.sq hG, rfl, _, _, rfl, _, _, rfl, rfl, _, _, rfl, rfl, ?_⟩
      refine ⟨.ref pA, rfl, .ref rA, rfl, pA, rA, _, _, rfl, .inr ⟨tk3.sq hP, tk3.sq hR, for_it (walk_zipT (K := K) (a := pA) (b := rA) (xs := g.1.map V.int) (ys := row.map V.int) rfl)
        (fun j σ H4 => ∃ y6 y7, σ = [some (.ref i), some (.ref a), some (.ref L), some (.ref pA), some (.int g.2), some (.ref rA), y6, y7] ∧ Same H H4 ∧
          H4 L = some (.lst ((rowLoads (loadsFrom (zeros cs.length) (gs.take i') (rows.take i')) (g.1.take j) (row.take j)).map V.int)))
        ⟨y6, y7, rfl, s3, by simpa [rowLoads] using e3⟩ ?_ ?_ ?_⟩⟩
      · rintro j σ H4 _ ⟨y6, y7, rfl, s4, e4⟩
        exact ⟨(TupK.of s4).sq hP, (TupK.of s4).sq hR⟩
      · rintro j v σ H4 H5 hltj ⟨y6, y7, rfl, s4, e4⟩ ⟨T2, x, y, rfl, nT2, rfl, hx2, hy2⟩
        have hx2' : (g.1.map V.int)[j]? = some x := hx2
        have hy2' : (row.map V.int)[j]? = some y := hy2
        rw [List.getElem?_map] at hx2' hy2'
        obtain ⟨pp, hpp, rfl⟩ := Option.map_eq_some_iff.mp hx2'
        obtain ⟨nn, hnn, rfl⟩ := Option.map_eq_some_iff.mp hy2'
        have e5 := upNew (o := .tup [.int pp, .int nn]) nT2 e4
        have hpr := (hin g (List.mem_of_getElem? hgi)).2 pp (List.mem_of_getElem? hpp)
        obtain ⟨pn, rfl⟩ : ∃ pn : Nat, pp = pn := ⟨pp.toNat, by omega⟩
        have hrl := rowLoads_take (ls := loadsFrom (zeros cs.length) (gs.take i') (rows.take i')) hpp hnn
        generalize hcur : rowLoads (loadsFrom (zeros cs.length) (gs.take i') (rows.take i')) (g.1.take j) (row.take j) = cur at e4 e5 hrl
        have hcl : cur.length = cs.length := by rw [← hcur, rowLoads_len, loadsFrom_len]; simp [zeros]
        have hpl : pn < cur.length := by omega
        refine ⟨T2, _, rfl, SqT.of upd_same, rfl, _, _, rfl, _, _, rfl, rfl, ?_⟩
        refine ⟨.ref L, rfl, .int pn, rfl, L, _, _, .int cur[pn], rfl, rfl, SqL.of e5, atI_nat (by rw [List.getElem?_map, List.getElem?_eq_getElem hpl]; rfl), .int nn, rfl, _, _, rfl, rfl, .ref L, rfl, .int pn, rfl, L, _, _, pn, rfl, rfl, e5, ixN_nat (by rw [List.length_map]; exact hpl), ?_⟩
        refine ⟨_, _, rfl, samePut (s4.trans (sameNew nT2)) fL, ?_⟩
        rw [upd_same, hrl]
        unfold addAt
        rw [Int.toNat_natCast, List.getD_eq_getElem?_getD, List.getElem?_eq_getElem hpl, List.map_set]
        rfl
      · rintro σ H4 ⟨y6, y7, rfl, s4, e4⟩
        refine ⟨_, _, _, _, _, rfl, s4, ?_⟩
        rw [loadsFrom_take hgi hri]
        rw [List.length_map, List.length_map, rowLoads_all] at e4
        exact e4
    · rintro σ H2 ⟨y3, y4, y5, y6, y7, rfl, s2, e2⟩
      rw [DpAll.len hgs, DpAll.len hrows, List.length_map, List.length_map, loadsFrom_all] at e2
      exact ⟨.ref L, rfl, q _ _ s2 e2⟩

end
end Pv

namespace Pv
open PySem PySem.Spec PyProof.Rows L2
def Shp (gs : List Gp) (rows : List (List Int)) : Prop := rows.length = gs.length ∧ ∀ (i : Nat) (g : Gp) (row : List Int), gs[i]? = some g → rows[i]? = some row → row.length = g.1.length + 1
theorem zip_snoc {α β : Type} {a : List α} {b : List β} {i : Nat} {x : α} {y : β} (hx : a[i]? = some x) (hy : b[i]? = some y) : (a.take (i + 1)).zip (b.take (i + 1)) = (a.take i).zip (b.take i) ++ [(x, y)] := by
  rw [zip_take, zip_take, List.take_add_one]
  have : (a.zip b)[i]? = some (x, y) := by
    rw [List.getElem?_zip_eq_some]; exact ⟨hx, hy⟩
  rw [this]; rfl
def rowD (d : PyData) : List Int := (intsOf d).getD []
def isAD (cs : List Int) (gs : List Gp) : PyData → Bool
  | .tuple ds => decide (ds.length = gs.length) && ((gs.zip ds).all (fun q => shareD q.1 q.2) && ((loadsOf cs.length gs (ds.map rowD)).zip cs).all (fun q => decide (q.1 ≤ q.2)))
  | _ => false
theorem isAD_tup (cs : List Int) (gs : List Gp) (ds : List PyData) : isAD cs gs (.tuple ds) = (decide (ds.length = gs.length) && ((gs.zip ds).all (fun q => shareD q.1 q.2) && ((loadsOf cs.length gs (ds.map rowD)).zip cs).all (fun q => decide (q.1 ≤ q.2)))) := rfl
theorem shareD_row {g : Gp} {d : PyData} (h : shareD g d = true) : d = dI (rowD d) ∧ (rowD d).length = g.1.length + 1 ∧ shareOk g.2 (rowD d) = true := by
  unfold shareD at h
  cases e : intsOf d with
  | none => rw [e] at h; simp at h
  | some row =>
    rw [e] at h
    have hr : rowD d = row := by unfold rowD; rw [e]; rfl
    rw [hr]
    have h' : decide (row.length = g.1.length + 1) = true ∧ shareOk g.2 row = true := by simpa using h
    refine ⟨?_, of_decide_eq_true h'.1, h'.2⟩
    cases d with
    | tuple ds => have e' : intsAll ds = some row := e; rw [intsAll_eq e']; rfl
    | _ => simp [intsOf] at e
theorem rows_all : ∀ {gs : List Gp} {ds : List PyData}, ds.length = gs.length → (gs.zip ds).all (fun q => shareD q.1 q.2) = true → ds = (ds.map rowD).map dI
  | [], ds, hl, _ => by
    cases ds with
    | nil => rfl
    | cons d ds => simp at hl
  | g :: gs, ds, hl, h => by
    cases ds with
    | nil => rfl
    | cons d ds =>
      rw [List.zip_cons_cons, List.all_cons, Bool.and_eq_true] at h
      have e1 := (shareD_row h.1).1
      have e2 := rows_all (gs := gs) (ds := ds) (by simpa using hl) h.2
      rw [List.map_cons, List.map_cons, ← e1, ← e2]
theorem zip_at {gs : List Gp} {ds : List PyData} (h : (gs.zip ds).all (fun q => shareD q.1 q.2) = true) {i : Nat} {g : Gp} {d : PyData} (hg : gs[i]? = some g) (hd : ds[i]? = some d) : shareD g d = true := by
  have hm : (g, d) ∈ gs.zip ds := List.mem_of_getElem? (i := i) (by rw [List.getElem?_zip_eq_some]; exact ⟨hg, hd⟩)
  exact List.all_eq_true.mp h _ hm
abbrev sIA : Stmt := topS 6
theorem scIA : FnScope ["instance", "value", "capacities", "groups", "posts", "count", "share", "load", "capacity"] ["instance", "value"] (defScope sIA) := ⟨rfl, rfl, rfl, by decide +kernel, rfl, by decide +kernel, by decide +kernel⟩
section
variable {P : Program} {w : World} {K : PySem.W.Frag} {mg : Str → Option Value} {base : Heap}
def spIsA (K : PySem.W.Frag) : Sp := fun vs H Q _ => ∃ (st r i : Addr) (v : V) (cs : List Int) (gs : List Gp) (d : PyData), vs = [.ref i, v] ∧ Dp K H (.ref i) (dInst cs gs) ∧ Dq K st r H v d ∧
  cs.length ≤ 900 ∧ gs.length ≤ 900 ∧ InR cs.length gs ∧ (∀ g ∈ gs, g.1.length ≤ 900) ∧ ∀ H', Same H H' → Q (.bl (isAD cs gs d)) H'
set_option maxHeartbeats 2000000 in
theorem ok_IA {f fTo fSp fLo : Addr} {fd fdTo fdSp fdLo : FuncData} (F : Fun K "is_assignment" "is_assignment" sIA f fd)
    (FTo : Fun K "is_tuple_of" "is_tuple_of" sTupOf fTo fdTo) (bTo : Binds K fdTo ["value", "least", "most"] []) (gTo : mg "is_tuple_of" = some (.ref fTo)) (GTo : FnOk P w K mg base CX0 1 fTo fdTo ["value", "least", "most"] (spTupOf K))
    (FSp : Fun K "is_split" "is_split" sSp fSp fdSp) (bSp : Binds K fdSp ["value", "size", "total"] []) (gSp : mg "is_split" = some (.ref fSp)) (GSp : FnOk P w K mg base CX0 3 fSp fdSp ["value", "size", "total"] (spSplit K))
    (FLo : Fun K "post_loads" "post_loads" sLoads fLo fdLo) (bLo : Binds K fdLo ["instance", "assignment"] []) (gLo : mg "post_loads" = some (.ref fLo)) (GLo : FnOk P w K mg base CX0 1 fLo fdLo ["instance", "assignment"] (spLoads K))
    (m_len : mg "len" = none) (m_zip : mg "zip" = none) (m_all : mg "all" = none) :
    FnOk P w K mg base CX0 4 f fd ["instance", "value"] (spIsA K) := by
  refine F.ok scIA (fun vs H Q E h => ?_) (fun cdv A outer s H vs Q E hr h => ?_)
  · obtain ⟨st, r, i, v, cs, gs, d, rfl, _⟩ := h; rfl
  · obtain ⟨st, r, i, v, cs, gs, d, rfl, hI, hA, hcs, hgn, hin, hgl, q⟩ := h
    refine ⟨_, pss_cons (ps_asg (pv 0) (pg_tup rfl (pgs_cons (pg_name (i := 2) scIA.nd rfl (.inl rfl)) (pgs_cons (pg_name (i := 3) scIA.nd rfl (.inl rfl)) pgs_nil))))
      (pss_cons (ps_if (pt_not (pt_val (pe_call GTo (hr.mono (by omega)) (by rfl) gTo FTo.kp bTo .nil pass0 (pa_cons (pv 1) (pa_cons (pe_callB call_lenQ (by rfl) m_len PySem.boot_len (pa_cons (pv 3) pa_nil)) (pa_cons (pe_callB call_lenQ (by rfl) m_len PySem.boot_len (pa_cons (pv 3) pa_nil)) pa_nil))))))
        (pss_one (ps_ret (pe_bl))) pss_nil)
      (pss_cons (ps_if (pt_not (pt_val (pe_callB (cr_all rfl) (by rfl) m_all (by decide +kernel) (pa_cons (pe_lc (own := [("posts", 4), ("count", 5), ("share", 6)]) (g := gTup K 2 (gCons (gTup K 2 (gCons (gName 4) (gCons (gName 5) gNil))) (gCons (gName 6) gNil))) (tt := tYes) (te := tCall (spSplit K) [] E0 (tCons (tVar 6) (tCons (tOp (rI0 fun i j => .int (i + j)) (tCB (rLenQ K) (tCons (tVar 4) tNil)) (tC (.int 1))) (tCons (tVar 5) tNil)))) rfl scIA.nd (RZ.pi_zipA (by rfl) m_zip (pa_cons (pv 3) (pa_cons (pv 1) pa_nil))) (blkOk_by (N := ["instance", "value", "capacities", "groups", "posts", "count", "share", "load", "capacity"]) (sc := defScope sIA) (by decide +kernel)) (fun _ _ _ _ _ => pg_tup rfl (pgs_cons (pg_tup rfl (pgs_cons (pg_name (i := 4) scIA.nd rfl (.inl rfl)) (pgs_cons (pg_name (i := 5) scIA.nd rfl (.inl rfl)) pgs_nil))) (pgs_cons (pg_name (i := 6) scIA.nd rfl (.inl rfl)) pgs_nil))) (fun _ _ _ _ _ => pts_nil) (fun _ _ _ _ _ => pe_call GSp (hr.mono (by omega)) (by rfl) gSp FSp.kp bSp .nil pass0 (pa_cons (pv 6) (pa_cons (pe_op op_add (pe_callB call_lenQ (by rfl) m_len PySem.boot_len (pa_cons (pv 4) pa_nil)) (pe_int)) (pa_cons (pv 5) pa_nil))))) pa_nil))))
        (pss_one (ps_ret (pe_bl))) pss_nil)
      (pss_one (ps_ret (pe_callB (cr_all rfl) (by rfl) m_all (by decide +kernel) (pa_cons (pe_lc (own := [("load", 7), ("capacity", 8)]) (g := gTup K 2 (gCons (gName 7) (gCons (gName 8) gNil))) (tt := tYes) (te := tOp (rI0 fun i j => .bl (decide (i ≤ j))) (tVar 7) (tVar 8)) rfl scIA.nd (RZ.pi_zipA (by rfl) m_zip (pa_cons (pe_call GLo (hr.mono (by omega)) (by rfl) gLo FLo.kp bLo .nil pass0 (pa_cons (pv 0) (pa_cons (pv 1) pa_nil))) (pa_cons (pv 2) pa_nil))) (blkOk_by (N := ["instance", "value", "capacities", "groups", "posts", "count", "share", "load", "capacity"]) (sc := defScope sIA) (by decide +kernel)) (fun _ _ _ _ _ => pg_tup rfl (pgs_cons (pg_name (i := 7) scIA.nd rfl (.inl rfl)) (pgs_cons (pg_name (i := 8) scIA.nd rfl (.inl rfl)) pgs_nil))) (fun _ _ _ _ _ => pts_nil) (fun _ _ _ _ _ => pe_cmpR op_le (pv 7) (pv 8) (nomark _))) pa_nil)))))), ?_⟩
    obtain ⟨_, ca, ga, xs, e, hi, hc, hg, hgs⟩ := inst_open hI
    cases e
    have lx := DpAll.len hgs
    rw [List.length_map] at lx
    refine ⟨.ref i, rfl, i, _, rfl, hi, rfl, .ref ca, _, rfl, .ref ga, _, rfl, rfl, ?_⟩
    refine ⟨v, rfl, .ref ga, rfl, ga, xs, rfl, .inr hg, .ref ga, rfl, ga, xs, rfl, .inr hg, st, r, v, d, _, _, rfl, hA, ?_⟩
    rw [lx]
    cases hb : tupOfD (gs.length : Int) (gs.length : Int) d with
    | false =>
      refine ⟨_, rfl, iteT ?_⟩
      have e : isAD cs gs d = false := by
        cases d with
        | tuple ds =>
          have h1 := of_decide_eq_false hb
          have : ¬ ds.length = gs.length := by omega
          simp [isAD, this]
        | _ => rfl
      have := q H (Same.refl H)
      rw [e] at this
      exact this
    | true =>
    refine ⟨_, rfl, iteF ?_⟩
    cases d with
    | none | bool _ | int _ | str _ | list _ | dict _ => simp [tupOfD] at hb
    | tuple ds =>
    cases hA with
    | @tup a ys _ ha hds =>
    have ly := DqAll.len hds
    have hdl : ds.length = gs.length := by have := of_decide_eq_true hb; omega
    refine ⟨.ref ga, rfl, .ref a, rfl, ga, a, xs, ys, rfl, .inr ⟨hg, ha, fun D nD => lc_it (walk_zipT (K := K) (a := ga) (b := a) (xs := xs) (ys := ys) rfl)
      (fun j H2 => Same H H2 ∧ H2 D = some (.lst ((((gs.take j).zip (ds.take j)).map (fun q => shareD q.1 q.2)).map V.bl))) ⟨sameNew nD, upd_same⟩ (fun j H2 _ h2 => ⟨(TupK.of h2.1).sq hg, (TupK.of h2.1).sq ha⟩) ?_ ?_⟩⟩
    · rintro j v H2 H3 hlt ⟨s2, e2⟩ ⟨T, x, y, rfl, nT, rfl, hx, hy⟩
      have hx' : xs[j]? = some x := hx
      have hy' : ys[j]? = some y := hy
      obtain ⟨d, hd, hxd⟩ := DpAll.at hgs hx'
      rw [List.getElem?_map] at hd
      obtain ⟨g, hgi, rfl⟩ := Option.map_eq_some_iff.mp hd
      obtain ⟨dy, hdy, hyd⟩ := DqAll.at hds hy'
      obtain ⟨gA, pA, rfl, hG, hP⟩ := grp_ref hxd
      have s3 : Same H (upd H2 T (.tup [.ref gA, y])) := s2.trans (sameNew nT)
      have tk3 := TupK.of s3
      have hgl' := hgl g (List.mem_of_getElem? hgi)
      have hjl : j < gs.length := (List.getElem?_eq_some_iff.mp hgi).1
      refine ⟨T, _, rfl, SqT.of upd_same, rfl, _, _, rfl, gA, _, rfl, tk3.sq hG, rfl, _, _, rfl, _, _, rfl, rfl, _, _, rfl, rfl, rfl, y, rfl, .ref pA, rfl, pA, _, rfl, .inr (tk3.sq hP), _, _, rfl, rfl, .int g.2, rfl, st, r, y, dy, _, _, rfl, hyd.lasts (.of s3), by rw [List.length_map]; omega, fun H4 s4 => ⟨_, s4 _ _ (upNew nT e2), ?_, samePut (s3.trans s4) nD, ?_⟩⟩
      · rw [List.length_map, List.length_map, List.length_zip, List.length_take]; exact small (by omega)
      · rw [upd_same, zip_snoc hgi hdy, List.length_map, split_share]; simp
    · rintro H2 ⟨s2, e2⟩
      rw [lx, ly, zip_take, List.take_of_length_le (by rw [List.length_zip]; exact Nat.le_refl _)] at e2
      refine ⟨D, _, rfl, SqL.of e2, _, rfl, ?_⟩
      have tk2 := TupK.of s2
      cases hall : ((gs.zip ds).map (fun q => shareD q.1 q.2)).all id with
      | false =>
        have e : isAD cs gs (.tuple ds) = false := by
          rw [isAD_tup]
          rw [List.all_map] at hall
          rw [show (gs.zip ds).all (fun q => shareD q.1 q.2) = false from hall, Bool.false_and, Bool.and_false]
        have := q H2 s2
        rw [e] at this
        exact this
      | true =>
        rw [List.all_map] at hall
        have hall' : (gs.zip ds).all (fun q => shareD q.1 q.2) = true := hall
        have e : isAD cs gs (.tuple ds) = ((loadsOf cs.length gs (ds.map rowD)).zip cs).all (fun q => decide (q.1 ≤ q.2)) := by
          rw [isAD_tup, hall', Bool.true_and, decide_eq_true hdl, Bool.true_and]
        have hR := rows_all hdl hall'
        generalize hrw : ds.map rowD = rows at e hR
        have hA2 : Dp K H (.ref a) (dAsg rows) := by
          have : Dq K st r H (.ref a) (dAsg rows) := by unfold dAsg; rw [← hR]; exact .tup ha hds
          exact this.to_dp (to_dAsg rows)
        refine ⟨.ref i, rfl, .ref a, rfl, i, a, cs, gs, rows, rfl, tk2.dp _ _ (to_dInst _ _) hI, tk2.dp _ _ (to_dAsg _) hA2, by omega, hin, fun H3 p s3 hp => ?_⟩
        have sp := sq_dI hp
        have s03 := s2.trans s3
        have hc3 := (TupK.of s03).sq hc
        refine ⟨.ref ca, rfl, p, ca, _, _, rfl, .inr ⟨sp, hc3, fun D2 nD2 => lc_it (walk_zipT (K := K) (a := p) (b := ca) (xs := (loadsOf cs.length gs rows).map V.int) (ys := cs.map V.int) rfl)
          (fun j H4 => Same H3 H4 ∧ H4 D2 = some (.lst (((((loadsOf cs.length gs rows).take j).zip (cs.take j)).map (fun q => decide (q.1 ≤ q.2))).map V.bl))) ⟨sameNew nD2, upd_same⟩ (fun j H4 _ h4 => ⟨(TupK.of h4.1).sq sp, (TupK.of h4.1).sq hc3⟩) ?_ ?_⟩⟩
        · rintro j v H4 H5 hlt ⟨s4, e4⟩ ⟨T, x, y, rfl, nT, rfl, hx, hy⟩
          have hx' : ((loadsOf cs.length gs rows).map V.int)[j]? = some x := hx
          have hy' : (cs.map V.int)[j]? = some y := hy
          rw [List.getElem?_map] at hx' hy'
          obtain ⟨l, hl, rfl⟩ := Option.map_eq_some_iff.mp hx'
          obtain ⟨c, hcj, rfl⟩ := Option.map_eq_some_iff.mp hy'
          have hjl : j < cs.length := (List.getElem?_eq_some_iff.mp hcj).1
          refine ⟨T, _, rfl, SqT.of upd_same, rfl, _, _, rfl, _, _, rfl, rfl, rfl, .int l, rfl, .int c, rfl, _, _, rfl, rfl, _, upNew nT e4, ?_, samePut (s4.trans (sameNew nT)) nD2, ?_⟩
          · rw [List.length_map, List.length_map, List.length_zip, List.length_take, List.length_take]; exact small (by omega)
          · rw [upd_same, zip_snoc hl hcj]; simp
        · rintro H4 ⟨s4, e4⟩
          rw [List.length_map, List.length_map, zip_take, List.take_of_length_le (by rw [List.length_zip]; exact Nat.le_refl _)] at e4
          refine ⟨D2, _, rfl, SqL.of e4, ?_⟩
          have := q H4 (s03.trans s4)
          rw [e] at this
          rw [List.all_map]
          exact this
end
end Pv

namespace Pv
open PySem PySem.Spec PyProof.Rows L2
abbrev sStart : Stmt := topS 9
abbrev sFar : Stmt := topS 12
theorem scStart : FnScope ["_law_script", "_law_cells", "_law_cell"] ["_law_script"] (defScope sStart) := ⟨rfl, rfl, rfl, by decide +kernel, rfl, by decide +kernel, by decide +kernel⟩
theorem scFar : FnScope ["_law_state", "_law_most", "_law_small"] ["_law_state", "_law_most"] (defScope sFar) := ⟨rfl, rfl, rfl, by decide +kernel, rfl, by decide +kernel, by decide +kernel⟩
theorem take_snoc {α : Type} {l : List α} {i : Nat} {x : α} (h : l[i]? = some x) : l.take (i + 1) = l.take i ++ [x] := by rw [List.take_add_one, h]; rfl
theorem cut_to (xs : List V) (n : Nat) : cutV xs none (some (n : Int)) = xs.take n := by
  unfold cutV
  rw [HT.sIx_none, HT.sIx_nat, List.drop_zero, Nat.sub_zero]
  by_cases h : n ≤ xs.length
  · rw [Nat.min_eq_left h]
  · rw [Nat.min_eq_right (by omega), List.take_length, List.take_of_length_le (by omega)]
def absI (i : Int) : Int := if i < 0 then -i else i
theorem absI_nn (i : Int) : 0 ≤ absI i := by unfold absI; split <;> omega
def restI (c : Int) : Int := c * (if decide ((10 : Int) ^ (18 : Int).toNat ≤ c) = true then 1 else 0)
theorem restI_nn {c : Int} (h : 0 ≤ c) : 0 ≤ restI c := by unfold restI; split <;> omega
section
variable {P : Program} {w : World} {K : PySem.W.Frag} {mg : Str → Option Value} {base : Heap}
def spStart (K : PySem.W.Frag) : Sp := fun vs H Q _ => ∃ (a : Addr) (ns : List Int), vs = [.ref a] ∧ SqL K H a (ns.map V.int) ∧ ns.length ≤ 63 ∧
  ∀ H' st c r, Same H H' → DS H' st c r 0 → Q (.ref st) H'
set_option maxHeartbeats 2000000 in
theorem ok_start {f : Addr} {fd : FuncData} {k : Nat} (F : Fun K "_law_start" "_law_start" sStart f fd) (ma : mg "abs" = none) (mi : mg "int" = none) (ml : mg "len" = none) :
    FnOk P w K mg base CX0 (k + 1) f fd ["_law_script"] (spStart K) := by
  refine F.ok scStart (fun vs H Q E h => ?_) (fun cdv A outer s H vs Q E hr h => ?_)
  · obtain ⟨a, ns, rfl, _⟩ := h; rfl
  · obtain ⟨a, ns, rfl, hS, hn, q⟩ := h
    refine ⟨_, pss_cons (ps_set (i := 1) scStart.nd rfl (.inl rfl) (pe_op op_cat
        (pe_lc (own := [("_law_cell", 2)]) (g := gName 2) (tt := tYes) rfl scStart.nd (pi_list (pe_slice sl_list (pv 0) po_none (po_some pe_int))) (blkOk_by (N := ["_law_script", "_law_cells", "_law_cell"]) (sc := defScope sStart) (by decide +kernel))
            (fun _ _ _ _ _ => pg_name (i := 2) scStart.nd rfl (.inl rfl)) (fun _ _ _ _ _ => pts_nil)
            (fun _ _ _ _ _ => pe_callB call_abs (by rfl) ma (by decide +kernel) (pa_cons (pv 2) pa_nil)))
        (pe_op op_rep (pe_lst (pa_cons pe_int pa_nil)) (pe_callTy call_int1 (by rfl) mi (by decide +kernel) (pa_cons (pe_cmpR op_eq (pe_callB call_len_seq (by rfl) ml PySem.boot_len (pa_cons (pv 0) pa_nil)) pe_int (nomark _)) pa_nil)))))
      (pss_one (ps_ret (pe_lst (pa_cons (pv 1) (pa_cons
        (pe_lc (own := [("_law_cell", 2)]) (g := gName 2) (tt := tYes) rfl scStart.nd (pi_list (pv 1)) (blkOk_by (N := ["_law_script", "_law_cells", "_law_cell"]) (sc := defScope sStart) (by decide +kernel))
            (fun _ _ _ _ _ => pg_name (i := 2) scStart.nd rfl (.inl rfl)) (fun _ _ _ _ _ => pts_nil)
            (fun _ _ _ _ _ => pe_op op_mul (pv 2) (pe_callTy call_int1 (by rfl) mi (by decide +kernel) (pa_cons (pe_cmpR op_ge (pv 2) (pe_op op_pow pe_int pe_int) (nomark _)) pa_nil))))
        (pa_cons pe_int pa_nil)))))), ?_⟩
    have hcut : cutV (ns.map V.int) none (some 60) = (ns.take 60).map V.int := by rw [List.map_take]; exact cut_to _ 60
    refine ⟨.ref a, rfl, 60, rfl, a, _, rfl, hS, fun p np => ⟨p, rfl, ⟨_, SqL.of upd_same⟩, fun D nD => lc_list (xs := cutV (ns.map V.int) none (some 60))
      (fun j H2 => Same (upd H p (.lst (cutV (ns.map V.int) none (some 60)))) H2 ∧ H2 D = some (.lst ((((ns.take 60).map absI).take j).map V.int)))
      ⟨sameNew nD, upd_same⟩ (fun j H2 _ h2 => SqL.of (h2.1 _ _ upd_same)) ?_ ?_⟩⟩
    · rintro j x H2 hx ⟨s2, e2⟩
      rw [hcut, List.getElem?_map] at hx
      obtain ⟨z, hz, rfl⟩ := Option.map_eq_some_iff.mp hx
      refine ⟨rfl, .int z, rfl, z, rfl, _, e2, ?_, samePut s2 nD, ?_⟩
      · rw [List.length_map, List.length_take]; simp; exact small (by omega)
      · rw [upd_same, take_snoc (show ((ns.take 60).map absI)[j]? = some (absI z) by rw [List.getElem?_map, hz]; rfl), List.map_append]; rfl
    · rintro H2 ⟨s2, e2⟩
      rw [hcut, List.length_map, List.take_of_length_le (by simp)] at e2
      have s02 : Same H H2 := (sameNew np).trans s2
      -- [13] * int(len(script) == 0)
      refine ⟨by decide, fun p1 n1 => ⟨.ref a, rfl, a, _, rfl, .inl (((s02.trans (sameNew n1))).seq hS), rfl, .inr ⟨_, rfl, p1, _, _, rfl, rfl, upd_same, by split <;> decide, by split <;> decide, by split <;> decide, fun p2 n2 => ?_⟩⟩⟩
      generalize hb : decide (V.int ((List.map V.int ns).length : Int) = V.int 0) = b at n2 ⊢
      have e2' := upNew n2 (o := .lst (List.replicate (if b = true then (1 : Int) else 0).toNat [V.int 13]).flatten) (upNew n1 (o := .lst [.int 13]) e2)
      have hl0 : ns.length = 0 ↔ b = true := by
        rw [← hb, decide_eq_true_eq, List.length_map]
        constructor
        · intro h; rw [h]; rfl
        · intro h; have := V.int.inj h; omega
      have hrep : (List.replicate (if b = true then (1 : Int) else 0).toNat [V.int 13]).flatten = ((if b = true then [13] else []) : List Int).map V.int := by
        cases b <;> rfl
      refine ⟨D, p2, _, _, rfl, rfl, e2', upd_same, ?_, fun C nC => ?_⟩
      · rw [hrep, List.length_map, List.length_map, List.length_map, List.length_take]; have : (if b = true then [13] else [] : List Int).length ≤ 1 := by split <;> simp
        have h5 := small (n := 100) (by omega); omega
      rw [hrep, ← List.map_append] at *
      generalize hcl : (List.take 60 ns).map absI ++ (if b = true then [13] else []) = cells
      have hnn : ∀ c ∈ cells, 0 ≤ c := by
        intro c hc
        rw [← hcl, List.mem_append] at hc
        rcases hc with h | h
        · obtain ⟨i, _, rfl⟩ := List.mem_map.mp h; exact absI_nn i
        · split at h
          · simp at h; omega
          · simp at h
      have hcl0 : 0 < cells.length ∧ cells.length ≤ 61 := by
        rw [← hcl, List.length_append, List.length_map, List.length_take]
        by_cases hb1 : b = true
        · rw [if_pos hb1]; simp; omega
        · rw [if_neg hb1]
          have : ns.length ≠ 0 := fun z => hb1 (hl0.mp z)
          simp; omega
      generalize hHC : upd (upd (upd H2 p1 (.lst [.int 13])) p2 (.lst (((if b = true then [13] else []) : List Int).map V.int))) C (.lst (cells.map V.int)) = HC
      have eC : HC C = some (.lst (cells.map V.int)) := by rw [← hHC]; exact upd_same
      have s0C : Same H HC := by rw [← hHC]; exact ((s02.trans (sameNew n1)).trans (sameNew n2)).trans (sameNew nC)
      refine ⟨.ref C, rfl, .ref C, rfl, C, rfl, ⟨_, SqL.of eC⟩, fun R nR => lc_list (xs := cells.map V.int)
        (fun j H3 => Same HC H3 ∧ H3 R = some (.lst (((cells.map restI).take j).map V.int))) ⟨sameNew nR, upd_same⟩ (fun j H3 _ h3 => SqL.of (h3.1 _ _ eC)) ?_ ?_⟩
      · rintro j x H3 hx ⟨s3, e3⟩
        rw [List.getElem?_map] at hx
        obtain ⟨z, hz, rfl⟩ := Option.map_eq_some_iff.mp hx
        refine ⟨rfl, .int z, rfl, .int z, rfl, _, _, rfl, rfl, ⟨by decide, by decide, by decide⟩, _, _, rfl, rfl, .inr ⟨_, rfl, _, _, rfl, rfl, .inr ⟨by split <;> decide, by split <;> decide⟩, _, e3, ?_, samePut s3 nR, ?_⟩⟩
        · rw [List.length_map, List.length_take, List.length_map]; exact small (by omega)
        · rw [upd_same, List.take_add_one, List.getElem?_map, hz]; simp [restI]
      · rintro H3 ⟨s3, e3⟩
        rw [List.length_map, List.take_of_length_le (by rw [List.length_map]; exact Nat.le_refl _)] at e3
        refine ⟨(show (3 : Nat) ≤ sizeLine by decide), fun st nst => q _ st C R ((s0C.trans s3).trans (sameNew nst)) ⟨upd_same, ⟨cells, cells.map restI, upNew nst (s3 _ _ eC), upNew nst e3, by rw [List.length_map], hcl0.1, by omega, ?_⟩, ne_of_none eC nR, ?_, ?_⟩⟩
        · intro x hx
          obtain ⟨c, hc, rfl⟩ := List.mem_map.mp hx
          exact restI_nn (hnn c hc)
        · exact (ne_of_none (s3 _ _ eC) nst).symm
        · exact (ne_of_none e3 nst).symm
def spFar : Sp := fun vs H Q _ => ∃ (st c r : Addr) (t : Nat) (m : Int), vs = [.ref st, .int m] ∧ DS H st c r t ∧ t + 3 ≤ 1000000 ∧ 0 ≤ m ∧ m ≤ 2 ^ 50 ∧
  ∀ (H' : Hp) (d : Int), 0 ≤ d → d ≤ m → DS H' st c r (t + 3) → Ext st r H H' → Q (.int d) H'
set_option maxHeartbeats 2000000 in
theorem ok_far {f fD : Addr} {fd fdD : FuncData} {k : Nat} (F : Fun K "_law_far_amount" "_law_far_amount" sFar f fd)
    (FD : Fun K "_law_draw" "_law_draw" sDraw fD fdD) (bD : Binds K fdD ["_law_state", "_law_below"] []) (gD : mg "_law_draw" = some (.ref fD)) (GD : FnOk P w K mg base CX0 1 fD fdD ["_law_state", "_law_below"] spDraw)
    (mm : mg "min" = none) : FnOk P w K mg base CX0 (1 + k + 1) f fd ["_law_state", "_law_most"] spFar := by
  refine F.ok scFar (fun vs H Q E h => ?_) (fun cdv A outer s H vs Q E hr h => ?_)
  · obtain ⟨st, c, r, t, m, rfl, _⟩ := h; rfl
  · obtain ⟨st, c, r, t, m, rfl, hd, ht, hm, hm2, q⟩ := h
    refine ⟨_, pss_cons (ps_set (i := 2) scFar.nd rfl (.inl rfl) (pe_call GD (hr.mono (by omega)) (by rfl) gD FD.kp bD .nil pass0 (pa_cons (pv 0) (pa_cons (pe_op op_add (pe_callB (call_min2 rfl) (by rfl) mm (by decide +kernel) (pa_cons (pv 1) (pa_cons pe_int pa_nil))) pe_int) pa_nil))))
      (pss_one (ps_ret (pe_ix ix_list (pe_lst (pa_cons (pv 2) (pa_cons (pe_op op_sub (pv 1) (pv 2)) (pa_cons (pe_call GD (hr.mono (by omega)) (by rfl) gD FD.kp bD .nil pass0 (pa_cons (pv 0) (pa_cons (pe_op op_add (pv 1) pe_int) pa_nil))) pa_nil))))
        (pe_call GD (hr.mono (by omega)) (by rfl) gD FD.kp bD .nil pass0 (pa_cons (pv 0) (pa_cons pe_int pa_nil))) (fun _ _ => rfl)))), ?_⟩
    refine ⟨.ref st, rfl, .int m, rfl, _, _, rfl, _, _, rfl, rfl, st, c, r, t, _, rfl, hd, by omega, by split <;> omega, by split <;> omega, fun H1 d1 h1 h1' D1 X1 => ?_⟩
    have hd1 : d1 ≤ m := by split at h1' <;> omega
    refine ⟨.int d1, rfl, .int m, rfl, .int d1, rfl, _, _, rfl, rfl, .ref st, rfl, .int m, rfl, _, _, rfl, rfl, st, c, r, t + 1, _, rfl, D1, by omega, by omega, by omega, fun H2 d2 h2 h2' D2 X2 => ?_⟩
    refine ⟨(show (3 : Nat) ≤ sizeLine by decide), fun L nL => ⟨.ref st, rfl, st, c, r, t + 1 + 1, _, rfl, D2.new nL, by omega, by omega, by omega, fun H3 d3 h3 h3' D3 X3 => ?_⟩⟩
    have off := D2.off nL
    have eL : H3 L = some (.lst [.int d1, .int (m - d1), .int d2]) := X3 L _ upd_same off.1 off.2.2
    have XX : Ext st r H H3 := ((X1.trans X2).trans (Ext.of (sameNew nL))).trans X3
    obtain h | h | h : d3 = 0 ∨ d3 = 1 ∨ d3 = 2 := by omega
    · subst h
      exact ⟨L, _, _, _, rfl, rfl, SqL.of eL, atI_nat (j := 0) rfl, q _ _ h1 hd1 D3 XX⟩
    · subst h
      exact ⟨L, _, _, _, rfl, rfl, SqL.of eL, atI_nat (j := 1) rfl, q _ _ (by omega) (by omega) D3 XX⟩
    · subst h
      exact ⟨L, _, _, _, rfl, rfl, SqL.of eL, atI_nat (j := 2) rfl, q _ _ h2 (by omega) D3 XX⟩
end
end Pv

namespace Pv
open PySem PySem.Spec PyProof.Rows L2
abbrev sAsg : Stmt := topS 13
theorem scAsg : FnScope ["_law_state", "_law_instance_here", "_law_places", "_law_found", "_law_posts", "_law_count", "_law_numbers", "_law_post", "_law_number"] ["_law_state", "_law_instance_here"] (defScope sAsg) := ⟨rfl, rfl, rfl, by decide +kernel, rfl, by decide +kernel, by decide +kernel⟩
structure InsOk (cs : List Int) (gs : List Gp) : Prop where
  c1 : 1 ≤ cs.length
  c6 : cs.length ≤ 6
  cb : ∀ c ∈ cs, 1 ≤ c ∧ c ≤ 10 ^ 12
  g1 : 1 ≤ gs.length
  g10 : gs.length ≤ 10
  gp : ∀ g ∈ gs, g.1.length ≤ 6 ∧ (∀ p ∈ g.1, 0 ≤ p ∧ p < (cs.length : Int)) ∧ 1 ≤ g.2 ∧ g.2 ≤ 10 ^ 12
def Bd (rows : List (List Int)) : Prop := ∀ row ∈ rows, ∀ x ∈ row, 0 ≤ x ∧ x ≤ 10 ^ 12
theorem Shp.snoc {gs : List Gp} {rows : List (List Int)} {i : Nat} {g : Gp} {row : List Int} (h : Shp (gs.take i) rows) (hg : gs[i]? = some g) (hr : row.length = g.1.length + 1) : Shp (gs.take (i + 1)) (rows ++ [row]) := by
  have hil : i < gs.length := (List.getElem?_eq_some_iff.mp hg).1
  have hl : rows.length = i := by rw [h.1, List.length_take]; omega
  rw [take_snoc hg]
  refine ⟨by simp [hl]; omega, ?_⟩
  intro j g' row' h1 h2
  by_cases hj : j < i
  · rw [List.getElem?_append_left (by rw [List.length_take]; omega)] at h1
    rw [List.getElem?_append_left (by omega)] at h2
    exact h.2 j g' row' h1 h2
  · rw [List.getElem?_append_right (by omega)] at h2
    rw [List.getElem?_append_right (by rw [List.length_take]; omega)] at h1
    have e : j - rows.length = 0 := by
      have := (List.getElem?_eq_some_iff.mp h2).1; simp at this; omega
    have e1 : j - (gs.take i).length = 0 := by rw [List.length_take]; omega
    rw [e] at h2; rw [e1] at h1
    simp at h1 h2
    rw [← h1, ← h2]; exact hr
theorem ExtPut {st r p : Addr} {H H1 : Hp} {o : HO} (x : Ext st r H H1) (np : H p = none) : Ext st r H (upd H1 p o) := fun b z e n1 n2 => by rw [upd_ne (ne_of_none e np)]; exact x b z e n1 n2
section
variable {P : Program} {w : World} {K : PySem.W.Frag} {mg : Str → Option Value} {base : Heap}
def spAsg (K : PySem.W.Frag) : Sp := fun vs H Q _ => ∃ (st c r i : Addr) (t : Nat) (cs : List Int) (gs : List Gp), vs = [.ref st, .ref i] ∧ DS H st c r t ∧ t + 200 ≤ 1000000 ∧ Dp K H (.ref i) (dInst cs gs) ∧ InsOk cs gs ∧
  ∀ (H' : Hp) (p : Addr) (t' : Nat) (rows : List (List Int)), DS H' st c r t' → t' ≤ t + 200 → Ext st r H H' → Dp K H' (.ref p) (dAsg rows) → Shp gs rows → Bd rows → Q (.ref p) H'
set_option maxHeartbeats 4000000 in
theorem ok_asg {f fF : Addr} {fd fdF : FuncData} {k : Nat} (F : Fun K "_law_assignment" "_law_assignment" sAsg f fd)
    (FF : Fun K "_law_far_amount" "_law_far_amount" sFar fF fdF) (bF : Binds K fdF ["_law_state", "_law_most"] []) (gF : mg "_law_far_amount" = some (.ref fF)) (GF : FnOk P w K mg base CX0 2 fF fdF ["_law_state", "_law_most"] spFar)
    (mli : mg "list" = none) (mm : mg "min" = none) (mt : mg "tuple" = none) : FnOk P w K mg base CX0 (2 + k + 1) f fd ["_law_state", "_law_instance_here"] (spAsg K) := by
  refine F.ok scAsg (fun vs H Q E h => ?_) (fun cdv A outer s H vs Q E hr h => ?_)
  · obtain ⟨st, c, r, i, t, cs, gs, rfl, _⟩ := h; rfl
  · obtain ⟨st, c, r, i, t, cs, gs, rfl, hd, ht, hI, ok, q⟩ := h
    refine ⟨_, pss_cons (ps_set (i := 2) scAsg.nd rfl (.inl rfl) (pe_callTy call_list_of (by rfl) mli (by decide +kernel) (pa_cons (pe_ix ix_tup (pv 1) pe_int (fun _ _ => rfl)) pa_nil)))
      (pss_cons (ps_set (i := 3) scAsg.nd rfl (.inl rfl) (pe_lst pa_nil))
      (pss_cons (ps_for PassesOwn.never rfl (pi_tup (pe_ix ix_tup (pv 1) pe_int (fun _ _ => rfl))) (pg_tup rfl (pgs_cons (pg_name (i := 4) scAsg.nd rfl (.inl rfl)) (pgs_cons (pg_name (i := 5) scAsg.nd rfl (.inl rfl)) pgs_nil)))
        (pss_cons (ps_set (i := 6) scAsg.nd rfl (.inl rfl) (pe_lst pa_nil))
        (pss_cons (ps_for PassesOwn.never rfl (pi_tup (pv 4)) (pg_name (i := 7) scAsg.nd rfl (.inl rfl))
          (pss_cons (ps_set (i := 8) scAsg.nd rfl (.inl rfl) (pe_call GF (hr.mono (by omega)) (by rfl) gF FF.kp bF .nil pass0 (pa_cons (pv 0) (pa_cons (pe_callB (call_min2 rfl) (by rfl) mm (by decide +kernel) (pa_cons (pe_ix ix_list (pv 2) (pv 7) (fun _ _ => rfl)) (pa_cons (pv 5) pa_nil))) pa_nil))))
          (pss_cons (ps_asg (pe_op op_sub (pe_ix ix_list (pv 2) (pv 7) (fun _ _ => rfl)) (pv 8)) (pg_sub (pv 2) (pv 7) set_list))
          (pss_cons (ps_set (i := 5) scAsg.nd rfl (.inl rfl) (pe_op op_sub (pv 5) (pv 8)))
          (pss_one (ps_expr (pe_bm PySem.F.plainAttrs_list PySem.F.slot_list_append PySem.F.type_list_append mt_append (pv 6) (pa_cons (pv 8) pa_nil))))))))
        (pss_one (ps_expr (pe_bm PySem.F.plainAttrs_list PySem.F.slot_list_append PySem.F.type_list_append mt_append (pv 3) (pa_cons (pe_op op_catA (pe_callTy call_tuple_of (by rfl) mt (by decide +kernel) (pa_cons (pv 6) pa_nil)) (pe_tup (pa_cons (pv 5) pa_nil))) pa_nil))))))
      )
      (pss_one (ps_ret (pe_callTy call_tuple_of (by rfl) mt (by decide +kernel) (pa_cons (pv 3) pa_nil)))))), ?_⟩
    obtain ⟨_, ca, ga, xs, e, hi, hc, hg, hgs⟩ := inst_open hI
    cases e
    have lx := DpAll.len hgs
    rw [List.length_map] at lx
    -- places = list(instance[0]); found = []
    refine ⟨.ref i, rfl, i, _, 0, .ref ca, rfl, rfl, hi, atI_nat (j := 0) rfl, ca, _, rfl, .inr hc, fun Pl nPl => ⟨Nat.zero_le _, fun Fo nFo => ?_⟩⟩
    have oPl := hd.off nPl
    have d1 := (hd.new nPl (o := .lst (cs.map V.int))).new nFo (o := .lst [])
    have oFo := (hd.new nPl (o := .lst (cs.map V.int))).off nFo
    have fFo : H Fo = none := freeOf nFo
    have nPF : Pl ≠ Fo := ne_of_none upd_same nFo
    have s1 : Same H (upd (upd H Pl (.lst (cs.map V.int))) Fo (.lst [])) := (sameNew nPl).trans (sameNew nFo)
    refine ⟨.ref i, rfl, i, _, 1, .ref ga, rfl, rfl, (TupK.of s1).sq hi, atI_nat (j := 1) rfl, ga, rfl, ⟨_, (TupK.of s1).sq hg⟩, for_it (walk_tup (K := K) (a := ga) (xs := xs))
      (fun i' σ H2 => ∃ y4 y5 y6 y7 y8 t' pls vs rows, σ = [some (.ref st), some (.ref i), some (.ref Pl), some (.ref Fo), y4, y5, y6, y7, y8] ∧ DS H2 st c r t' ∧ t' ≤ t + 18 * i' ∧ Ext st r H H2 ∧
        H2 Pl = some (.lst (List.map V.int pls)) ∧ pls.length = cs.length ∧ (∀ x ∈ pls, 0 ≤ x ∧ x ≤ 10 ^ 12) ∧ H2 Fo = some (.lst vs) ∧ DpAll K H2 vs (List.map dI rows) ∧ Shp (gs.take i') rows ∧ Bd rows)
      ⟨none, none, none, none, none, t, cs, [], [], rfl, d1, by omega, Ext.of s1, upNew nFo upd_same, rfl, fun x hx => ⟨by have := (ok.cb x hx).1; omega, (ok.cb x hx).2⟩, upd_same, .nil, ⟨by simp, by intro j g row h; simp at h⟩, fun row h => by simp at h⟩ ?_ ?_ ?_⟩
    · rintro i' σ H2 _ ⟨y4, y5, y6, y7, y8, t', pls, vs, rows, rfl, d2, _, x2, _⟩
      exact (x2.tup hd).sq hg
    · rintro i' v σ H2 H3 hlt ⟨y4, y5, y6, y7, y8, t', pls, vs, rows, rfl, d2, ht2, x2, eP, lP, bP, eF, hvs, hsh, hbd⟩ ⟨rfl, hx⟩
      obtain ⟨d, hdd, hxd⟩ := DpAll.at hgs hx
      rw [List.getElem?_map] at hdd
      obtain ⟨g, hgi, rfl⟩ := Option.map_eq_some_iff.mp hdd
      obtain ⟨gA, pA, rfl, hG, hP⟩ := grp_ref hxd
      have tk2 := x2.tup hd
      obtain ⟨gl6, gpr, gc1, gc2⟩ := ok.gp g (List.mem_of_getElem? hgi)
      have hi10 : i' < 10 := by have := ok.g10; omega
      refine ⟨gA, _, rfl, tk2.sq hG, rfl, _, _, rfl, _, _, rfl, rfl, ?_⟩
      -- numbers = []
      refine ⟨Nat.zero_le _, fun Nu nNu => ?_⟩
      have oNu := d2.off nNu
      have nNP : Pl ≠ Nu := ne_of_none eP nNu
      have nNF : Fo ≠ Nu := ne_of_none eF nNu
      have hNu : H Nu = none := by
        cases e : H Nu with
        | none => rfl
        | some o => rw [x2 _ _ e oNu.1 oNu.2.2] at nNu; cases nNu
      generalize hH4 : upd H3 Nu (.lst []) = H4
      have eN4 : H4 Nu = some (.lst []) := by rw [← hH4]; exact upd_same
      have s4 : Same H3 H4 := by rw [← hH4]; exact sameNew nNu
      have tk4 := tk2.trans (TupK.of s4)
      refine ⟨.ref pA, rfl, pA, rfl, ⟨_, tk4.sq hP⟩, for_it (walk_tup (K := K) (a := pA) (xs := g.1.map V.int))
        (fun j σ H5 => ∃ (y7 y8 : Option V) (cnt : Int) (t5 : Nat) (ps2 nums : List Int), σ = [some (.ref st), some (.ref i), some (.ref Pl), some (.ref Fo), some (.ref pA), some (.int cnt), some (.ref Nu), y7, y8] ∧ DS H5 st c r t5 ∧ t5 ≤ t' + 3 * j ∧
          Ext st r H H5 ∧ TupK H3 H5 ∧ H5 Pl = some (.lst (ps2.map V.int)) ∧ ps2.length = cs.length ∧ (∀ x ∈ ps2, 0 ≤ x ∧ x ≤ 10 ^ 12) ∧ H5 Fo = some (.lst vs) ∧
          H5 Nu = some (.lst (nums.map V.int)) ∧ nums.length = j ∧ (∀ x ∈ nums, 0 ≤ x ∧ x ≤ 10 ^ 12) ∧ 0 ≤ cnt ∧ cnt ≤ 10 ^ 12)
        ⟨y7, y8, g.2, t', pls, [], rfl, d2.same s4, by omega, x2.trans (Ext.of s4), TupK.of s4, s4 _ _ eP, lP, bP, s4 _ _ eF, eN4, rfl, (fun x h => by simp at h), by omega, gc2⟩ ?_ ?_ ?_⟩
      · rintro j σ H5 _ ⟨y7, y8, cnt, t5, ps2, nums, rfl, d5, ht5, x5, tk5, _⟩
        exact (tk2.trans tk5).sq hP
      · rintro j v σ H5 H6 hltj ⟨y7, y8, cnt, t5, ps2, nums, rfl, d5, ht5, x5, tk5, eP5, lP5, bP5, eF5, eN5, lN5, bN5, c0, c1⟩ ⟨rfl, hx2⟩
        rw [List.getElem?_map] at hx2
        obtain ⟨pp, hpp, rfl⟩ := Option.map_eq_some_iff.mp hx2
        have hpr := gpr pp (List.mem_of_getElem? hpp)
        obtain ⟨pn, rfl⟩ : ∃ pn : Nat, pp = pn := ⟨pp.toNat, by omega⟩
        have hpl : pn < ps2.length := by omega
        have hj6 : j < 6 := by have := (List.getElem?_eq_some_iff.mp hpp).1; omega
        have hpv : (ps2.map V.int)[pn]? = some (.int ps2[pn]) := by rw [List.getElem?_map, List.getElem?_eq_getElem hpl]; rfl
        have hpb := bP5 ps2[pn] (List.getElem_mem hpl)
        refine ⟨.ref st, rfl, .ref Pl, rfl, .int pn, rfl, Pl, _, _, .int ps2[pn], rfl, rfl, SqL.of eP5, atI_nat hpv, .int cnt, rfl, _, _, rfl, st, c, r, t5, _, rfl, d5, by omega, by split <;> omega, by split <;> omega, fun H7 d h0 hle D7 X7 => ?_⟩
        have eP7 := X7 _ _ eP5 oPl.1 oPl.2.2
        have eF7 := X7 _ _ eF5 oFo.1 oFo.2.2
        have eN7 := X7 _ _ eN5 oNu.1 oNu.2.2
        have hd1 : d ≤ cnt := by split at hle <;> omega
        have hd2 : d ≤ ps2[pn] := by split at hle <;> omega
        refine ⟨.ref Pl, rfl, .int pn, rfl, Pl, _, _, .int ps2[pn], rfl, rfl, SqL.of eP7, atI_nat hpv, .int d, rfl, _, _, rfl, rfl, .ref Pl, rfl, .int pn, rfl, Pl, _, _, pn, rfl, rfl, eP7, ixN_nat (by rw [List.length_map]; exact hpl), ?_⟩
        refine ⟨.int cnt, rfl, .int d, rfl, _, _, rfl, rfl, ?_⟩
        have eN8 : (upd H7 Pl (.lst ((ps2.map V.int).set pn (.int (ps2[pn] - d))))) Nu = some (.lst (nums.map V.int)) := by rw [upd_ne nNP.symm]; exact eN7
        refine ⟨.ref Nu, rfl, .inl ⟨rfl, _, SqL.of eN8⟩, .int d, rfl, Nu, _, _, rfl, rfl, eN8, ?_, ?_⟩
        · rw [List.length_map]; exact small (by omega)
        refine ⟨_, _, cnt - d, t5 + 3, ps2.set pn (ps2[pn] - d), nums ++ [d], rfl, (D7.put oPl.1 oPl.2.1 oPl.2.2).put oNu.1 oNu.2.1 oNu.2.2, by omega, ExtPut (ExtPut (x5.trans X7) nPl) hNu, ((tk5.trans (X7.tup d5)).trans (TupK.put eP7)).trans (TupK.put eN8), ?_, ?_, ?_, ?_, ?_, ?_, ?_, by omega, by omega⟩
        · rw [upd_ne nNP, upd_same, List.map_set]
        · rw [List.length_set]; exact lP5
        · intro x hx
          rcases List.mem_or_eq_of_mem_set hx with h | h
          · exact bP5 x h
          · rw [h]; omega
        · rw [upd_ne nNF, upd_ne nPF.symm]; exact eF7
        · rw [upd_same, List.map_append]; rfl
        · simp [lN5]
        · intro x hx
          rw [List.mem_append] at hx
          rcases hx with h | h
          · exact bN5 x h
          · simp at h; omega
      · rintro σ H5 ⟨z7, z8, cnt, t5, ps2, nums, rfl, d5, ht5, x5, tk5, eP5, lP5, bP5, eF5, eN5, lN5, bN5, c0, c1⟩
        rw [List.length_map] at ht5 lN5
        have hvl : vs.length = i' := by rw [DpAll.len hvs, List.length_map, hsh.1, List.length_take]; omega
        -- found.append(..)
        have fin : ∀ (H9 : Hp) (p : Addr), Same H5 H9 → SqT K H9 p ((nums ++ [cnt]).map V.int) → rAppend (.ref Fo) [.ref p] H9 (fun _ Hz => ∃ y4 y5 y6 y7 y8 t' pls vs rows, ([some (.ref st), some (.ref i), some (.ref Pl), some (.ref Fo), some (.ref pA), some (.int cnt), some (.ref Nu), z7, z8] : L2.St) = [some (.ref st), some (.ref i), some (.ref Pl), some (.ref Fo), y4, y5, y6, y7, y8] ∧ DS Hz st c r t' ∧ t' ≤ t + 18 * (i' + 1) ∧ Ext st r H Hz ∧
            Hz Pl = some (.lst (List.map V.int pls)) ∧ pls.length = cs.length ∧ (∀ x ∈ pls, 0 ≤ x ∧ x ≤ 10 ^ 12) ∧ Hz Fo = some (.lst vs) ∧ DpAll K Hz vs (List.map dI rows) ∧ Shp (gs.take (i' + 1)) rows ∧ Bd rows) := by
          intro H9 p s9 h9
          have eF9 := s9 _ _ eF5
          have tk9 : TupK H9 (upd H9 Fo (.lst (vs ++ [.ref p]))) := TupK.put eF9
          refine ⟨Fo, vs, .ref p, rfl, rfl, eF9, by rw [hvl]; exact small (by omega), _, _, _, _, _, t5, ps2, vs ++ [.ref p], rows ++ [nums ++ [cnt]], rfl, (d5.same s9).put oFo.1 oFo.2.1 oFo.2.2, by omega, ExtPut (x5.trans (Ext.of s9)) fFo, by rw [upd_ne nPF]; exact s9 _ _ eP5, lP5, bP5, upd_same, ?_, hsh.snoc hgi (by simp [lN5]), ?_⟩
          · rw [List.map_append]
            exact DpAll.snoc (((tk5.trans (TupK.of s9)).trans tk9).dpAll _ _ (to_rows _) hvs) (dI_sq (tk9.sq h9))
          · intro row hrow
            rw [List.mem_append] at hrow
            rcases hrow with h | h
            · exact hbd row h
            · simp at h
              subst h
              intro x hx
              rw [List.mem_append] at hx
              rcases hx with h | h
              · exact bN5 x h
              · simp at h; omega
        refine ⟨.ref Fo, rfl, .inl ⟨rfl, _, SqL.of eF5⟩, .ref Nu, rfl, Nu, _, rfl, .inl ⟨SqL.of eN5, fun p1 n1 => ⟨.int cnt, rfl, (show (1 : Nat) ≤ sizeLine by decide), fun p2 n2 => ⟨p1, p2, _, _, rfl, rfl, SqT.of (upNew n2 upd_same), SqT.of upd_same, ?_, fun z => ?_, (fun _ z => by cases z), fun _ _ p3 n3 => ?_⟩⟩⟩⟩
        · rw [List.length_map, lN5]; have := small (n := g.1.length + 1) (by omega); simp; omega
        · have z2 : nums = [] := List.map_eq_nil_iff.mp z
          refine fin _ p2 ((sameNew n1).trans (sameNew n2)) (SqT.of ?_)
          rw [upd_same, z2]; rfl
        · refine fin _ p3 (((sameNew n1).trans (sameNew n2)).trans (sameNew n3)) (SqT.of ?_)
          rw [upd_same, List.map_append]; rfl
    · rintro σ H2 ⟨y4, y5, y6, y7, y8, t', pls, vs, rows, rfl, d2, ht2, x2, eP, lP, bP, eF, hvs, hsh, hbd⟩
      rw [lx, List.take_length] at hsh
      have := ok.g10
      exact ⟨.ref Fo, rfl, Fo, _, rfl, .inl ⟨SqL.of eF, fun p np => q _ p t' rows (d2.new np) (by omega) (x2.trans (Ext.of (sameNew np))) (.tup (SqT.of upd_same) ((TupK.new np).dpAll _ _ (to_rows _) hvs)) hsh hbd⟩⟩
end
end Pv

namespace Pv
open PySem PySem.Spec PyProof.Rows L2
abbrev sInst : Stmt := topS 11
theorem scInst : FnScope ["_law_state", "_law_posts", "_law_groups", "_law_most", "_law_size", "_law_capacities", "_law_found", "_law_group", "_law_names", "_law_chosen", "_law_post", "_law_turn"] ["_law_state", "_law_posts", "_law_groups", "_law_most"] (defScope sInst) := ⟨rfl, rfl, rfl, by decide +kernel, rfl, by decide +kernel, by decide +kernel⟩
theorem Ext.nil {st c r p : Addr} {t : Nat} {H H1 : Hp} (x : Ext st r H H1) (d : DS H1 st c r t) (np : H1 p = none) : H p = none := by
  have o := d.off np
  cases e : H p with
  | none => rfl
  | some z => rw [x _ _ e o.1 o.2.2] at np; cases np
def upTo (n : Nat) : List Int := (List.range n).map fun (i : Nat) => (i : Int)
theorem rgV_upTo (n : Nat) : rgV 0 (n : Int) = (upTo n).map V.int := by
  unfold rgV upTo
  rw [List.map_map]
  simp
theorem upTo_len (n : Nat) : (upTo n).length = n := by simp [upTo]
theorem upTo_mem {n : Nat} {x : Int} (h : x ∈ upTo n) : 0 ≤ x ∧ x < n := by
  unfold upTo at h
  obtain ⟨i, hi, rfl⟩ := List.mem_map.mp h
  have := List.mem_range.mp hi
  omega
theorem erase_map {α β : Type} (f : α → β) : ∀ (l : List α) (k : Nat), (l.map f).eraseIdx k = (l.eraseIdx k).map f
  | [], _ => rfl
  | _ :: _, 0 => rfl
  | x :: l, k + 1 => by simp [erase_map f l k]
section
variable {P : Program} {w : World} {K : PySem.W.Frag} {mg : Str → Option Value} {base : Heap}
def spInst (K : PySem.W.Frag) : Sp := fun vs H Q _ => ∃ (st c r : Addr) (t : Nat) (m : Int), vs = [.ref st, .int 6, .int 10, .int m] ∧ DS H st c r t ∧ t + 200 ≤ 1000000 ∧ 1 ≤ m ∧ m ≤ 10 ^ 12 ∧
  ∀ (H' : Hp) (p : Addr) (t' : Nat) (cs : List Int) (gs : List Gp), DS H' st c r t' → t' ≤ t + 200 → Ext st r H H' → Dp K H' (.ref p) (dInst cs gs) → InsOk cs gs → Q (.ref p) H'
set_option maxHeartbeats 4000000 in
theorem ok_inst {f fD : Addr} {fd fdD : FuncData} {k : Nat} (F : Fun K "_law_instance" "_law_instance" sInst f fd)
    (FD : Fun K "_law_draw" "_law_draw" sDraw fD fdD) (bD : Binds K fdD ["_law_state", "_law_below"] []) (gD : mg "_law_draw" = some (.ref fD)) (GD : FnOk P w K mg base CX0 1 fD fdD ["_law_state", "_law_below"] spDraw)
    (mt : mg "tuple" = none) (mr : mg "range" = none) (mli : mg "list" = none) (ml : mg "len" = none) : FnOk P w K mg base CX0 (1 + k + 1) f fd ["_law_state", "_law_posts", "_law_groups", "_law_most"] (spInst K) := by
  refine F.ok scInst (fun vs H Q E h => ?_) (fun cdv A outer s H vs Q E hr h => ?_)
  · obtain ⟨st, c, r, t, m, rfl, _⟩ := h; rfl
  · obtain ⟨st, c, r, t, m, rfl, hd, ht, hm, hm2, q⟩ := h
    refine ⟨_, pss_cons (ps_set (i := 4) scInst.nd rfl (.inl rfl) (pe_op op_add pe_int (pe_call GD (hr.mono (by omega)) (by rfl) gD FD.kp bD .nil pass0 (pa_cons (pv 0) (pa_cons (pv 1) pa_nil)))))
      (pss_cons (ps_set (i := 5) scInst.nd rfl (.inl rfl) (pe_callTy call_tuple_of (by rfl) mt (by decide +kernel) (pa_cons
        (pe_lc (own := [("_law_post", 10)]) (g := gName 10) (tt := tYes) rfl scInst.nd (pi_range1 (by rfl) mr (pa_cons (pv 4) pa_nil)) (blkOk_by (N := ["_law_state", "_law_posts", "_law_groups", "_law_most", "_law_size", "_law_capacities", "_law_found", "_law_group", "_law_names", "_law_chosen", "_law_post", "_law_turn"]) (sc := defScope sInst) (by decide +kernel))
          (fun _ _ _ _ _ => pg_name (i := 10) scInst.nd rfl (.inl rfl)) (fun _ _ _ _ _ => pts_nil)
          (fun _ _ _ _ _ => pe_op op_add pe_int (pe_call GD (hr.mono (by omega)) (by rfl) gD FD.kp bD .nil pass0 (pa_cons (pv 0) (pa_cons (pv 3) pa_nil))))) pa_nil)))
      (pss_cons (ps_set (i := 6) scInst.nd rfl (.inl rfl) (pe_lst pa_nil))
      (pss_cons (ps_for PassesOwn.never rfl (pi_range1 (by rfl) mr (pa_cons (pe_op op_add pe_int (pe_call GD (hr.mono (by omega)) (by rfl) gD FD.kp bD .nil pass0 (pa_cons (pv 0) (pa_cons (pv 2) pa_nil)))) pa_nil)) (pg_name (i := 7) scInst.nd rfl (.inl rfl))
        (pss_cons (ps_set (i := 8) scInst.nd rfl (.inr rfl) (pe_listRg rfl (by rfl) mli (prg_1 (by rfl) mr (pv 4))))
        (pss_cons (ps_setLc (i := 9) (own := [("_law_turn", 11)]) (g := gName 11) (tt := tYes) (te := tBM K "list" rPopAt (tVar 8) (tCons (tCall spDraw [] E0 (tCons (tVar 0) (tCons (tCB (rLenQ K) (tCons (tVar 8) tNil)) tNil))) tNil)) rfl scInst.nd rfl rfl (sw_true rfl rfl rfl (by decide +kernel))
          (pi_range1 (by rfl) mr (pa_cons (pe_call GD (hr.mono (by omega)) (by rfl) gD FD.kp bD .nil pass0 (pa_cons (pv 0) (pa_cons (pe_op op_add (pv 4) pe_int) pa_nil))) pa_nil))
          (blkOk_by (N := ["_law_state", "_law_posts", "_law_groups", "_law_most", "_law_size", "_law_capacities", "_law_found", "_law_group", "_law_names", "_law_chosen", "_law_post", "_law_turn"]) (sc := defScope sInst) (by decide +kernel))
          (fun _ _ _ _ _ => pg_name (i := 11) scInst.nd rfl (.inl rfl)) (fun _ _ _ _ _ => pts_nil)
          (fun _ _ _ _ _ => pe_bm PySem.F.plainAttrs_list PySem.F.slot_list_pop PySem.F.type_list_pop mt_popAt (pv 8) (pa_cons (pe_call GD (hr.mono (by omega)) (by rfl) gD FD.kp bD .nil pass0 (pa_cons (pv 0) (pa_cons (pe_callB call_lenQ (by rfl) ml PySem.boot_len (pa_cons (pv 8) pa_nil)) pa_nil))) pa_nil)))
        (pss_one (ps_expr (pe_bm PySem.F.plainAttrs_list PySem.F.slot_list_append PySem.F.type_list_append mt_append (pv 6) (pa_cons (pe_tup (pa_cons (pe_callTy call_tuple_of (by rfl) mt (by decide +kernel) (pa_cons (pv 9) pa_nil))
          (pa_cons (pe_op op_add pe_int (pe_call GD (hr.mono (by omega)) (by rfl) gD FD.kp bD .nil pass0 (pa_cons (pv 0) (pa_cons (pv 3) pa_nil)))) pa_nil))) pa_nil)))))))
      (pss_one (ps_ret (pe_tup (pa_cons (pv 5) (pa_cons (pe_callTy call_tuple_of (by rfl) mt (by decide +kernel) (pa_cons (pv 6) pa_nil)) pa_nil)))))))), ?_⟩
    -- size
    refine ⟨.ref st, rfl, .int 6, rfl, st, c, r, t, _, rfl, hd, by omega, by decide, by decide, fun H1 d1 h10 h11 D1 X1 => ⟨_, _, rfl, rfl, ?_⟩⟩
    obtain ⟨n, hn⟩ : ∃ n : Nat, 1 + d1 = (n : Int) := ⟨(1 + d1).toNat, by omega⟩
    have hn6 : 1 ≤ n ∧ n ≤ 6 := by omega
    dsimp only
    rw [hn]
    -- capacities
    refine ⟨.int n, rfl, n, rfl, by omega, by omega, fun Ca nCa => lc_it (walk_range (lo := 0) (n := (n : Int).toNat))
      (fun j H2 => ∃ (t2 : Nat) (ls : List Int), DS H2 st c r t2 ∧ t2 ≤ t + 1 + j ∧ Ext st r H H2 ∧ H2 Ca = some (.lst (ls.map V.int)) ∧ ls.length = j ∧ ∀ x ∈ ls, 1 ≤ x ∧ x ≤ 10 ^ 12)
      ⟨t + 1, [], D1.new nCa, by omega, X1.trans (Ext.of (sameNew nCa)), upd_same, rfl, fun x h => by simp at h⟩ (fun _ _ _ _ => trivial) ?_ ?_⟩
    · rintro j v H2 H3 hlt ⟨t2, ls, d2, ht2, x2, e2, l2, b2⟩ ⟨rfl, rfl⟩
      have hj6 : j < 6 := by omega
      have oCa := D1.off nCa
      refine ⟨rfl, .ref st, rfl, .int m, rfl, st, c, r, t2, _, rfl, d2, by omega, by omega, by omega, fun H4 d h0 h1 D4 X4 => ⟨_, _, rfl, rfl, _, X4 _ _ e2 oCa.1 oCa.2.2, ?_, t2 + 1, ls ++ [1 + d], D4.put oCa.1 oCa.2.1 oCa.2.2, by omega, ExtPut (x2.trans X4) (X1.nil D1 nCa), ?_, by simp [l2], ?_⟩⟩
      · rw [List.length_map]; exact small (by omega)
      · rw [upd_same, List.map_append]; rfl
      · intro x hx
        rw [List.mem_append] at hx
        rcases hx with h | h
        · exact b2 x h
        · simp at h; omega
    rintro H2 ⟨t2, caps, d2, ht2, x2, e2, l2, b2⟩
    have l2' : caps.length = n := by omega
    refine ⟨Ca, _, rfl, .inl ⟨SqL.of e2, fun Cp nCp => ?_⟩⟩
    -- found = []
    refine ⟨Nat.zero_le _, fun Fo nFo => ?_⟩
    generalize hHc : upd (upd H2 Cp (.tup (caps.map V.int))) Fo (.lst []) = Hc
    have dc : DS Hc st c r t2 := by rw [← hHc]; exact (d2.new nCp).new nFo
    have xc : Ext st r H Hc := by rw [← hHc]; exact (x2.trans (Ext.of (sameNew nCp))).trans (Ext.of (sameNew nFo))
    have sC : SqT K Hc Cp (caps.map V.int) := by rw [← hHc]; exact SqT.of (upNew nFo upd_same)
    have eFo : Hc Fo = some (.lst []) := by rw [← hHc]; exact upd_same
    have oFo := (d2.new nCp (o := .tup (caps.map V.int))).off nFo
    have fFo : H Fo = none := (x2.trans (Ext.of (sameNew nCp (o := .tup (caps.map V.int))))).nil (d2.new nCp) nFo
    -- the groups
    refine ⟨.ref st, rfl, .int 10, rfl, st, c, r, t2, _, rfl, dc, by omega, by decide, by decide, fun H3 d3 h30 h31 D3 X3 => ⟨_, _, rfl, rfl, ?_⟩⟩
    obtain ⟨gn, hgn⟩ : ∃ gn : Nat, 1 + d3 = (gn : Int) := ⟨(1 + d3).toNat, by omega⟩
    have hgn10 : 1 ≤ gn ∧ gn ≤ 10 := by omega
    refine ⟨1 + d3, rfl, by omega, by omega, for_it (walk_range (lo := 0) (n := (1 + d3).toNat))
      (fun i σ H4 => ∃ (y7 y8 y9 : Option V) (t4 : Nat) (vs : List V) (gs : List Gp), σ = [some (.ref st), some (.int 6), some (.int 10), some (.int m), some (.int n), some (.ref Cp), some (.ref Fo), y7, y8, y9, none, none] ∧ DS H4 st c r t4 ∧ t4 ≤ t2 + 1 + 10 * i ∧ Ext st r H H4 ∧ TupK Hc H4 ∧
        H4 Fo = some (.lst vs) ∧ DpAll K H4 vs (gs.map dGrp) ∧ gs.length = i ∧ ∀ g ∈ gs, g.1.length ≤ 6 ∧ (∀ p ∈ g.1, 0 ≤ p ∧ p < (n : Int)) ∧ 1 ≤ g.2 ∧ g.2 ≤ 10 ^ 12)
      ⟨none, none, none, t2 + 1, [], [], rfl, D3, by omega, xc.trans X3, X3.tup dc, X3 _ _ eFo oFo.1 oFo.2.2, .nil, rfl, fun g h => by simp at h⟩ (fun _ _ _ _ _ => trivial) ?_ ?_⟩
    · rintro i v σ H4 H5 hlt ⟨y7, y8, y9, t4, vs, gs, rfl, d4, ht4, x4, tk4, eF4, hvs, lgs, bgs⟩ ⟨rfl, rfl⟩
      have hi10 : i < 10 := by omega
      -- names = list(range(size))
      refine ⟨.int n, rfl, n, rfl, RgOk.of_le (by omega) (by omega) (by omega) (by omega), fun Nm nNm => ?_⟩
      have oNm := d4.off nNm
      have fNm := x4.nil d4 nNm
      have nFN : Fo ≠ Nm := ne_of_none eF4 nNm
      have d5 := d4.new nNm (o := .lst (rgV 0 n))
      -- chosen
      refine ⟨.ref st, rfl, .int n, rfl, _, _, rfl, rfl, st, c, r, t4, _, rfl, d5, by omega, by omega, by omega, fun H6 d6 h60 h61 D6 X6 => ?_⟩
      have eF6 := X6 _ _ (upNew nNm eF4) oFo.1 oFo.2.2
      have eN6 := X6 Nm _ upd_same oNm.1 oNm.2.2
      rw [rgV_upTo] at eN6
      have x6 := (x4.trans (Ext.of (sameNew nNm))).trans X6
      have tk6 := (tk4.trans (TupK.new nNm)).trans (X6.tup d5)
      have tk6a := (TupK.new nNm (o := .lst (rgV 0 n))).trans (X6.tup d5)
      refine ⟨d6, rfl, by omega, by omega, fun Ch nCh => lc_it (walk_range (lo := 0) (n := d6.toNat))
        (fun j H7 => ∃ (t7 : Nat) (ns ls : List Int), DS H7 st c r t7 ∧ t7 ≤ t4 + 1 + j ∧ Ext st r H H7 ∧ TupK H6 H7 ∧ H7 Fo = some (.lst vs) ∧ H7 Nm = some (.lst (ns.map V.int)) ∧ ns.length + j = n ∧ (∀ x ∈ ns, 0 ≤ x ∧ x < (n : Int)) ∧
          H7 Ch = some (.lst (ls.map V.int)) ∧ ls.length = j ∧ ∀ x ∈ ls, 0 ≤ x ∧ x < (n : Int))
        ⟨t4 + 1, upTo n, [], D6.new nCh, by omega, x6.trans (Ext.of (sameNew nCh)), TupK.new nCh, upNew nCh eF6, upNew nCh eN6, upTo_len n, fun x h => upTo_mem h, upd_same, rfl, fun x h => by simp at h⟩ (fun _ _ _ _ => trivial) ?_ ?_⟩
      · rintro j v H7 H8 hltj ⟨t7, ns, ls, d7, ht7, x7, tk7, eF7, eN7, lN7, bN7, eC7, lC7, bC7⟩ ⟨rfl, rfl⟩
        have hjn : j < n := by omega
        have oCh := D6.off nCh
        have nNC : Nm ≠ Ch := ne_of_none eN6 nCh
        have nFC : Fo ≠ Ch := ne_of_none eF6 nCh
        refine ⟨rfl, .ref Nm, rfl, .inl ⟨rfl, _, SqL.of eN7⟩, .ref st, rfl, .ref Nm, rfl, Nm, _, rfl, .inl (SqL.of eN7), st, c, r, t7, _, rfl, d7, by omega, by rw [List.length_map]; omega, by rw [List.length_map]; omega, fun H9 d9 h90 h91 D9 X9 => ?_⟩
        rw [List.length_map] at h91
        have eN9 := X9 _ _ eN7 oNm.1 oNm.2.2
        have eC9 := X9 _ _ eC7 oCh.1 oCh.2.2
        have eF9 := X9 _ _ eF7 oFo.1 oFo.2.2
        have hk : d9.toNat < ns.length := by omega
        have eCz : (upd H9 Nm (.lst ((ns.map V.int).eraseIdx d9.toNat))) Ch = some (.lst (ls.map V.int)) := by rw [upd_ne nNC.symm]; exact eC9
        refine ⟨Nm, _, d9, d9.toNat, .int ns[d9.toNat], rfl, rfl, eN9, by omega, by omega, seqIndex_of h90 (by rw [List.length_map]; omega), by rw [List.getElem?_map, List.getElem?_eq_getElem hk]; rfl, _, eCz, by rw [List.length_map]; exact small (by omega),
          t7 + 1, ns.eraseIdx d9.toNat, ls ++ [ns[d9.toNat]], (D9.put oNm.1 oNm.2.1 oNm.2.2).put oCh.1 oCh.2.1 oCh.2.2, by omega, ExtPut (ExtPut (x7.trans X9) fNm) (x6.nil D6 nCh), ((tk7.trans (X9.tup d7)).trans (TupK.put eN9)).trans (TupK.put eCz), ?_, ?_, ?_, ?_, ?_, by simp [lC7], ?_⟩
        · rw [upd_ne nFC, upd_ne nFN]; exact eF9
        · rw [upd_ne nNC, upd_same, erase_map]
        · rw [List.length_eraseIdx_of_lt hk]; omega
        · exact fun x hx => bN7 x (List.mem_of_mem_eraseIdx hx)
        · rw [upd_same, List.map_append]; rfl
        · intro x hx
          rw [List.mem_append] at hx
          rcases hx with h | h
          · exact bC7 x h
          · simp at h; subst h; exact bN7 _ (List.getElem_mem hk)
      · rintro H7 ⟨t7, ns, ls, d7, ht7, x7, tk7, eF7, eN7, lN7, bN7, eC7, lC7, bC7⟩
        -- found.append(..)
        refine ⟨.ref Fo, rfl, .inl ⟨rfl, _, SqL.of eF7⟩, .ref Ch, rfl, Ch, _, rfl, .inl ⟨SqL.of eC7, fun Tp nTp => ?_⟩⟩
        refine ⟨.ref st, rfl, .int m, rfl, st, c, r, t7, _, rfl, d7.new nTp, by omega, by omega, by omega, fun H8 d8 h80 h81 D8 X8 => ⟨_, _, rfl, rfl, (show (2 : Nat) ≤ sizeLine by decide), fun Gr nGr => ?_⟩⟩
        have eF8p := X8 _ _ (upNew nTp eF7) oFo.1 oFo.2.2
        have eF8 := upNew nGr (o := .tup [.ref Tp, .int (1 + d8)]) eF8p
        have tk8 := (TupK.new nTp).trans (X8.tup (d7.new nTp (o := .tup (ls.map V.int))))
        have sT : SqT K H8 Tp (ls.map V.int) := (X8.tup (d7.new nTp)).sq (SqT.of upd_same)
        have hvl : vs.length = i := by rw [DpAll.len hvs, List.length_map, lgs]
        have tkz : TupK H8 (upd (upd H8 Gr (.tup [.ref Tp, .int (1 + d8)])) Fo (.lst (vs ++ [.ref Gr]))) := (TupK.new nGr).trans (TupK.put eF8)
        refine ⟨Fo, vs, _, rfl, rfl, eF8, by rw [hvl]; exact small (by omega), _, _, _, t7 + 1, vs ++ [.ref Gr], gs ++ [(ls, 1 + d8)], rfl, (D8.new nGr).put oFo.1 oFo.2.1 oFo.2.2, by omega, ExtPut ((((x7.trans (Ext.of (sameNew nTp))).trans X8)).trans (Ext.of (sameNew nGr))) fFo, ((tk6.trans tk7).trans tk8).trans tkz, upd_same, ?_, by simp [lgs], ?_⟩
        · rw [List.map_append]
          refine DpAll.snoc ((((tk6a.trans tk7).trans tk8).trans tkz).dpAll _ _ (to_grps _) hvs) (.tup (SqT.of ?_) (.cons (dI_sq (tkz.sq sT)) (.cons (.int _) .nil)))
          rw [upd_ne (ne_of_none eF8p nGr).symm]
          exact upd_same
        · intro g hg
          rw [List.mem_append] at hg
          rcases hg with h | h
          · exact bgs g h
          · simp at h
            subst h
            exact ⟨by show ls.length ≤ 6; omega, bC7, by show 1 ≤ 1 + d8; omega, by show 1 + d8 ≤ 10 ^ 12; omega⟩
    · rintro σ H4 ⟨y7, y8, y9, t4, vs, gs, rfl, d4, ht4, x4, tk4, eF4, hvs, lgs, bgs⟩
      refine ⟨.ref Cp, rfl, .ref Fo, rfl, Fo, _, rfl, .inl ⟨SqL.of eF4, fun Gt nGt => ⟨(show (2 : Nat) ≤ sizeLine by decide), fun In nIn => ?_⟩⟩⟩
      have tkz : TupK H4 (upd (upd H4 Gt (.tup vs)) In (.tup [.ref Cp, .ref Gt])) := (TupK.new nGt).trans (TupK.new nIn)
      refine q _ In t4 caps gs ((d4.new nGt).new nIn) (by omega) ((x4.trans (Ext.of (sameNew nGt))).trans (Ext.of (sameNew nIn))) (.tup (SqT.of upd_same) (.cons (dI_sq ((tk4.trans tkz).sq sC)) (.cons (.tup (SqT.of (upNew nIn upd_same)) (tkz.dpAll _ _ (to_grps _) hvs)) .nil))) ⟨by omega, by omega, b2, by omega, by omega, ?_⟩
      rw [l2']
      exact bgs
end
end Pv

namespace Pv
open PySem PySem.Spec PyProof.Rows L2
abbrev sNat : Stmt := topS 16
abbrev sForm : Stmt := topS 17
abbrev sLIsA : Stmt := topS 19
theorem scNat : FnScope ["_law_value"] ["_law_value"] (defScope sNat) := ⟨rfl, rfl, rfl, by decide +kernel, rfl, by decide +kernel, by decide +kernel⟩
theorem scForm : FnScope ["_law_value", "_law_size", "_law_one"] ["_law_value", "_law_size"] (defScope sForm) := ⟨rfl, rfl, rfl, by decide +kernel, rfl, by decide +kernel, by decide +kernel⟩
theorem scLIsA : FnScope ["_law_instance_here", "_law_value", "_law_posts", "_law_count", "_law_numbers", "_law_load", "_law_most"] ["_law_instance_here", "_law_value"] (defScope sLIsA) := ⟨rfl, rfl, rfl, by decide +kernel, rfl, by decide +kernel, by decide +kernel⟩
def natD : PyData → Bool
  | .int i => decide (0 ≤ i)
  | _ => false
def formD (n : Int) : PyData → Bool
  | .tuple ds => decide ((ds.length : Int) = n) && ds.all natD
  | _ => false
theorem nat_ints : ∀ {ds : List PyData}, ds.all natD = true → ∃ row : List Int, ds = row.map PyData.int ∧ ∀ x ∈ row, 0 ≤ x
  | [], _ => ⟨[], rfl, by simp⟩
  | d :: ds, h => by
    rw [List.all_cons, Bool.and_eq_true] at h
    obtain ⟨row, e, h2⟩ := nat_ints h.2
    cases d with
    | int i => exact ⟨i :: row, by rw [e]; rfl, by
        intro x hx
        rcases List.mem_cons.mp hx with rfl | hx
        · exact of_decide_eq_true h.1
        · exact h2 x hx⟩
    | _ => simp [natD] at h
theorem form_row {n : Int} {d : PyData} (h : formD n d = true) : ∃ row : List Int, d = dI row ∧ (row.length : Int) = n ∧ ∀ x ∈ row, 0 ≤ x := by
  cases d with
  | tuple ds =>
    have h' : decide ((ds.length : Int) = n) = true ∧ ds.all natD = true := by simpa [formD] using h
    obtain ⟨row, e, h2⟩ := nat_ints h'.2
    subst e
    exact ⟨row, rfl, by have := of_decide_eq_true h'.1; rw [List.length_map] at this; exact this, h2⟩
  | _ => simp [formD] at h
theorem row_form {row : List Int} (h : ∀ x ∈ row, 0 ≤ x) : formD (row.length : Int) (dI row) = true := by
  unfold dI
  simp only [formD, List.length_map, Bool.and_eq_true, decide_true, true_and, List.all_map]
  rw [List.all_eq_true]
  intro x hx
  exact decide_eq_true (h x hx)
theorem le_sum : ∀ {row : List Int}, (∀ x ∈ row, 0 ≤ x) → 0 ≤ row.sum ∧ ∀ x ∈ row, x ≤ row.sum
  | [], _ => by simp
  | a :: row, h => by
    obtain ⟨h0, h1⟩ := le_sum (row := row) (fun x hx => h x (by simp [hx]))
    have ha := h a (by simp)
    rw [List.sum_cons]
    refine ⟨by omega, fun x hx => ?_⟩
    rcases List.mem_cons.mp hx with rfl | hx
    · omega
    · have := h1 x hx; omega
theorem share_form {g : Gp} {d : PyData} (h : formD ((g.1.length : Int) + 1) d = false) : shareD g d = false := by
  cases e : shareD g d with
  | false => rfl
  | true =>
    obtain ⟨h1, h2, h3⟩ := shareD_row e
    unfold shareOk at h3
    rw [Bool.and_eq_true, List.all_eq_true] at h3
    have := row_form (row := rowD d) (fun x hx => (of_decide_eq_true (h3.1 x hx)).1)
    rw [← h1, h2] at this
    rw [show (((g.1.length + 1 : Nat)) : Int) = (g.1.length : Int) + 1 by omega] at this
    rw [this] at h; cases h
theorem share_sum {g : Gp} {row : List Int} (hl : (row.length : Int) = (g.1.length : Int) + 1) (h : ∀ x ∈ row, 0 ≤ x) : shareD g (dI row) = decide (row.sum = g.2) := by
  rw [shareD_dI, decide_eq_true (show row.length = g.1.length + 1 by omega), Bool.true_and]
  unfold shareOk
  by_cases e : row.sum = g.2
  · rw [decide_eq_true e, Bool.and_true, List.all_eq_true]
    intro x hx
    exact decide_eq_true ⟨h x hx, by rw [← e]; exact (le_sum h).2 x hx⟩
  · rw [decide_eq_false e, Bool.and_false]
section
variable {P : Program} {w : World} {K : PySem.W.Frag} {mg : Str → Option Value} {base : Heap}
def spNat (K : PySem.W.Frag) : Sp := fun vs H Q _ => ∃ (st r : Addr) (v : V) (d : PyData), vs = [v] ∧ Dq K st r H v d ∧ Q (.bl (natD d)) H
theorem ok_nat {f : Addr} {fd : FuncData} {k : Nat} (F : Fun K "_law_natural" "_law_natural" sNat f fd) (mi : mg "isinstance" = none) (mint : mg "int" = none) (mb : mg "bool" = none) :
    FnOk P w K mg base CX0 (k + 1) f fd ["_law_value"] (spNat K) := by
  refine F.ok scNat (fun vs H Q E h => ?_) (fun cdv A outer s H vs Q E hr h => ?_)
  · obtain ⟨st, r, v, d, rfl, _⟩ := h; rfl
  · obtain ⟨st, r, v, d, rfl, hd, q⟩ := h
    refine ⟨_, pss_one (ps_ret (pe_and (pe_callB call_isi (by rfl) mi (by decide +kernel) (pa_cons (pv 0) (pa_cons (pe_bltn (v := .ty "int") (by rfl) mint (by decide +kernel) rfl) pa_nil)))
      (pe_and (pe_not (pe_callB call_isi (by rfl) mi (by decide +kernel) (pa_cons (pv 0) (pa_cons (pe_bltn (v := .ty "bool") (by rfl) mb (by decide +kernel) rfl) pa_nil))))
        (pe_one (pe_cmpR op_ge (pv 0) pe_int (nomark _)))))), ?_⟩
    refine ⟨v, rfl, v, .ty "int", _, _, _, rfl, .ty _, hd.ty, kit_int d, _, rfl, ite2 (fun h1 => ?_) (fun h1 => ?_)⟩
    · refine ⟨v, rfl, v, .ty "bool", _, _, _, rfl, .ty _, hd.ty, kit_bool d, _, rfl, _, rfl, ite2 (fun h2 => ?_) (fun h2 => ?_)⟩
      · cases d with
        | int i => cases hd; exact ⟨.int i, rfl, _, _, rfl, rfl, q⟩
        | bool b => simp [isBool] at h2
        | _ => simp [isInt] at h1
      · cases d with
        | bool b => exact q
        | int i => simp [isBool] at h2
        | _ => simp [isInt] at h1
    · cases d with
      | int i => simp [isInt] at h1
      | _ => exact q
def spForm (K : PySem.W.Frag) : Sp := fun vs H Q _ => ∃ (st r : Addr) (v : V) (d : PyData) (n : Int), vs = [v, .int n] ∧ Dq K st r H v d ∧ n ≤ 1000 ∧ ∀ H', Same H H' → Q (.bl (formD n d)) H'
theorem ok_form {f fN : Addr} {fd fdN : FuncData} {k : Nat} (F : Fun K "_law_row_formed" "_law_row_formed" sForm f fd)
    (FN : Fun K "_law_natural" "_law_natural" sNat fN fdN) (bN : Binds K fdN ["_law_value"] []) (gN : mg "_law_natural" = some (.ref fN)) (GN : FnOk P w K mg base CX0 1 fN fdN ["_law_value"] (spNat K))
    (mi : mg "isinstance" = none) (mt : mg "tuple" = none) (ml : mg "len" = none) : FnOk P w K mg base CX0 (1 + k + 1) f fd ["_law_value", "_law_size"] (spForm K) := by
  refine F.ok scForm (fun vs H Q E h => ?_) (fun cdv A outer s H vs Q E hr h => ?_)
  · obtain ⟨st, r, v, d, n, rfl, _⟩ := h; rfl
  · obtain ⟨st, r, v, d, n, rfl, hd, hn, q⟩ := h
    have hu0 : (A.deeper (envOfC "_law_row_formed" (defScope sForm) s.heap.objs.size f cdv)).units < cLine := by have := hr.un; omega
    refine ⟨_, pss_cons (ps_if (PW.pt (pw_or (pt_not (pt_val (pe_callB call_isi (by rfl) mi (by decide +kernel) (pa_cons (pv 0) (pa_cons (pe_bltn (v := .ty "tuple") (by rfl) mt (by decide +kernel) rfl) pa_nil)))))
        (pw_or1 (pt_cmpR op_ne (pe_callB call_len_seq (by rfl) ml PySem.boot_len (pa_cons (pv 0) pa_nil)) (pv 1) (nomark _))))) (pss_one (ps_ret pe_bl)) pss_nil)
      (pss_one (ps_ret (pe_cmpR (op_eqNil hu0)
        (pe_lc (own := [("_law_one", 2)]) (g := gName 2) (tt := tNot (tB (tCall (spNat K) [] E0 (tCons (tVar 2) tNil)))) (te := tVar 2) rfl scForm.nd (pi_tup (pv 0))
          (blkOk_by (N := ["_law_value", "_law_size", "_law_one"]) (sc := defScope sForm) (by decide +kernel)) (fun _ _ _ _ _ => pg_name (i := 2) scForm.nd rfl (.inl rfl))
          (fun _ _ _ _ _ => pts_one (pt_not (pt_val (pe_call GN (hr.mono (by omega)) (by rfl) gN FN.kp bN .nil pass0 (pa_cons (pv 2) pa_nil))))) (fun _ _ _ _ _ => pv 2))
        (pe_lst pa_nil) (nomark _)))), ?_⟩
    refine ⟨v, rfl, v, .ty "tuple", _, _, _, rfl, .ty _, hd.ty, kit_tup d, _, rfl, ?_⟩
    cases d with
    | none => exact iteT (iteT (q _ (Same.refl _)))
    | bool _ => exact iteT (iteT (q _ (Same.refl _)))
    | int _ => exact iteT (iteT (q _ (Same.refl _)))
    | str _ => exact iteT (iteT (q _ (Same.refl _)))
    | list _ => exact iteT (iteT (q _ (Same.refl _)))
    | dict _ => exact iteT (iteT (q _ (Same.refl _)))
    | tuple ds =>
      cases hd with
      | @tup a xs _ hT ha =>
        have hl := DqAll.len ha
        refine iteF ⟨.ref a, rfl, a, xs, rfl, .inr hT, .int n, rfl, rfl, _, rfl, ite2 (fun h1 => ?_) (fun h1 => ?_)⟩
        · have e : formD n (.tuple ds) = false := by
            have h2 : ¬ (ds.length : Int) = n := by
              intro z
              rw [hl, z] at h1
              simp at h1
            simp [formD, h2]
          have := q _ (Same.refl _)
          rw [e] at this
          exact this
        · have hlen : (ds.length : Int) = n := by
            rw [hl] at h1
            simp at h1
            exact h1
          refine ⟨.ref a, rfl, a, rfl, ⟨_, hT⟩, fun D nD => lc_tup (xs := xs)
            (fun i H2 => Same H H2 ∧ ∃ zs : List V, H2 D = some (.lst zs) ∧ zs.length ≤ i ∧ zs.isEmpty = (ds.take i).all natD) ⟨sameNew nD, [], upd_same, Nat.le_refl _, rfl⟩ (fun i H2 _ h2 => (TupK.of h2.1).sq hT) ?_ ?_⟩
          · rintro i x H2 hx ⟨s2, zs, e2, hz, hem⟩
            obtain ⟨dx, hdx, hxd⟩ := DqAll.at ha hx
            have hil : i < ds.length := (List.getElem?_eq_some_iff.mp hdx).1
            have hsnoc : (ds.take (i + 1)).all natD = ((ds.take i).all natD && natD dx) := by rw [take_snoc hdx, List.all_append]; simp
            refine ⟨rfl, x, rfl, st, r, x, dx, rfl, hxd.lasts (.of s2), _, rfl, ite2 (fun h3 => ?_) (fun h3 => ?_)⟩
            · refine ⟨x, rfl, _, e2, ?_, samePut s2 nD, zs ++ [x], upd_same, by simp; omega, ?_⟩
              · exact small (by omega)
              · have h4 : natD dx = false := by simpa using h3
                rw [hsnoc, h4, Bool.and_false]; simp
            · have h4 : natD dx = true := by simpa using h3
              refine ⟨s2, zs, e2, by omega, ?_⟩
              rw [hsnoc, h4, Bool.and_true]; exact hem
          · rintro H2 ⟨s2, zs, e2, hz, hem⟩
            rw [hl, List.take_length] at hem
            refine ⟨Nat.zero_le _, fun p np => ⟨D, p, zs, rfl, rfl, SqL.of (upNew np e2), SqL.of upd_same, ?_⟩⟩
            have e : formD n (.tuple ds) = zs.isEmpty := by
              rw [hem]; simp [formD, hlen]
            have := q _ (s2.trans (sameNew (o := .lst []) np))
            rw [e] at this
            exact this
end
end Pv

namespace Pv
open PySem PySem.Spec PyProof.Rows L2
abbrev lisN : List Str := ["_law_instance_here", "_law_value", "_law_posts", "_law_count", "_law_numbers", "_law_load", "_law_most"]
section
variable {P : Program} {w : World} {K : PySem.W.Frag} {mg : Str → Option Value} {base : Heap}
def spLIsA (K : PySem.W.Frag) : Sp := fun vs H Q _ => ∃ (st r i : Addr) (v : V) (cs : List Int) (gs : List Gp) (d : PyData), vs = [.ref i, v] ∧ Dp K H (.ref i) (dInst cs gs) ∧ Dq K st r H v d ∧
  cs.length ≤ 900 ∧ gs.length ≤ 900 ∧ InR cs.length gs ∧ (∀ g ∈ gs, g.1.length ≤ 900) ∧ ∀ H', Same H H' → Q (.bl (isAD cs gs d)) H'
set_option maxHeartbeats 4000000 in
theorem ok_lisA {f fF fL : Addr} {fd fdF fdL : FuncData} {k : Nat} (F : Fun K "_law_is_assignment" "_law_is_assignment" sLIsA f fd)
    (FF : Fun K "_law_row_formed" "_law_row_formed" sForm fF fdF) (bF : Binds K fdF ["_law_value", "_law_size"] []) (gF : mg "_law_row_formed" = some (.ref fF)) (GF : FnOk P w K mg base CX0 2 fF fdF ["_law_value", "_law_size"] (spForm K))
    (FL : Fun K "_law_loads" "_law_loads" sLLoads fL fdL) (bL : Binds K fdL ["_law_instance_here", "_law_assignment_here"] []) (gL : mg "_law_loads" = some (.ref fL)) (GL : FnOk P w K mg base CX0 1 fL fdL ["_law_instance_here", "_law_assignment_here"] (spLLoads K))
    (mi : mg "isinstance" = none) (mt : mg "tuple" = none) (ml : mg "len" = none) (mz : mg "zip" = none) (ms : mg "sum" = none) : FnOk P w K mg base CX0 (2 + k + 1) f fd ["_law_instance_here", "_law_value"] (spLIsA K) := by
  refine F.ok scLIsA (fun vs H Q E h => ?_) (fun cdv A outer s H vs Q E hr h => ?_)
  · obtain ⟨st, r, i, v, cs, gs, d, rfl, _⟩ := h; rfl
  · obtain ⟨st, r, i, v, cs, gs, d, rfl, hI, hd, hcs, hgn, hin, hgl, q⟩ := h
    have hu0 : (A.deeper (envOfC "_law_is_assignment" (defScope sLIsA) s.heap.objs.size f cdv)).units < cLine := by have := hr.un; omega
    refine ⟨_, pss_cons (ps_if (PW.pt (pw_or (pt_not (pt_val (pe_callB call_isi (by rfl) mi (by decide +kernel) (pa_cons (pv 1) (pa_cons (pe_bltn (v := .ty "tuple") (by rfl) mt (by decide +kernel) rfl) pa_nil)))))
        (pw_or1 (pt_cmpR op_ne (pe_callB call_len_seq (by rfl) ml PySem.boot_len (pa_cons (pv 1) pa_nil)) (pe_callB call_len_seq (by rfl) ml PySem.boot_len (pa_cons (pe_ix ix_tup (pv 0) pe_int (fun _ _ => rfl)) pa_nil)) (nomark _))))) (pss_one (ps_ret pe_bl)) pss_nil)
      (pss_cons (ps_for PassesOwn.never rfl (RZ.pi_zipA (by rfl) mz (pa_cons (pe_ix ix_tup (pv 0) pe_int (fun _ _ => rfl)) (pa_cons (pv 1) pa_nil)))
          (pg_tup rfl (pgs_cons (pg_tup rfl (pgs_cons (pg_name (i := 2) scLIsA.nd rfl (.inl rfl)) (pgs_cons (pg_name (i := 3) scLIsA.nd rfl (.inl rfl)) pgs_nil))) (pgs_cons (pg_name (i := 4) scLIsA.nd rfl (.inl rfl)) pgs_nil)))
          (pss_one (ps_if (PW.pt (pw_or (pt_not (pt_val (pe_call GF (hr.mono (by omega)) (by rfl) gF FF.kp bF .nil pass0 (pa_cons (pv 4) (pa_cons (pe_op op_add (pe_callB call_len_seq (by rfl) ml PySem.boot_len (pa_cons (pv 2) pa_nil)) pe_int) pa_nil)))))
            (pw_or1 (pt_cmpR op_ne (pe_callB (call_sumT rfl) (by rfl) ms (by decide +kernel) (pa_cons (pv 4) pa_nil)) (pv 3) (nomark _))))) (pss_one (ps_ret pe_bl)) pss_nil)))
      (pss_one (ps_ret (pe_cmpR (op_eqNil hu0)
        (pe_lc (own := [("_law_load", 5), ("_law_most", 6)]) (g := gTup K 2 (gCons (gName 5) (gCons (gName 6) gNil))) (tt := tTest (tOp (rI0 fun i j => .bl (decide (j < i))) (tVar 5) (tVar 6))) (te := tC (.int 1)) rfl scLIsA.nd
          (pi_zipM (by rfl) mz (pa_cons (pe_call GL (hr.mono (by omega)) (by rfl) gL FL.kp bL .nil pass0 (pa_cons (pv 0) (pa_cons (pv 1) pa_nil))) (pa_cons (pe_ix ix_tup (pv 0) pe_int (fun _ _ => rfl)) pa_nil)))
          (blkOk_by (N := lisN) (sc := defScope sLIsA) (by decide +kernel)) (fun _ _ _ _ _ => pg_tup rfl (pgs_cons (pg_name (i := 5) scLIsA.nd rfl (.inl rfl)) (pgs_cons (pg_name (i := 6) scLIsA.nd rfl (.inl rfl)) pgs_nil)))
          (fun _ _ _ _ _ => pts_one (pt_cmpR op_gt (pv 5) (pv 6) (nomark _))) (fun _ _ _ _ _ => pe_int))
        (pe_lst pa_nil) (nomark _))))), ?_⟩
    obtain ⟨_, ca, ga, xs, e, hi, hc, hg, hgs⟩ := inst_open hI
    cases e
    have lx := DpAll.len hgs
    rw [List.length_map] at lx
    refine ⟨v, rfl, v, .ty "tuple", _, _, _, rfl, .ty _, hd.ty, kit_tup d, _, rfl, ?_⟩
    cases d with
    | none => exact iteT (iteT (q _ (Same.refl _)))
    | bool _ => exact iteT (iteT (q _ (Same.refl _)))
    | int _ => exact iteT (iteT (q _ (Same.refl _)))
    | str _ => exact iteT (iteT (q _ (Same.refl _)))
    | list _ => exact iteT (iteT (q _ (Same.refl _)))
    | dict _ => exact iteT (iteT (q _ (Same.refl _)))
    | tuple ds =>
    cases hd with
    | @tup a ys _ ha hds =>
    have ly := DqAll.len hds
    refine iteF ⟨.ref a, rfl, a, ys, rfl, .inr ha, .ref i, rfl, i, _, 1, .ref ga, rfl, rfl, hi, atI_nat (j := 1) rfl, ga, xs, rfl, .inr hg, rfl, _, rfl, ite2 (fun h1 => ?_) (fun h1 => ?_)⟩
    · have e : isAD cs gs (.tuple ds) = false := by
        have h2 : ¬ ds.length = gs.length := by
          intro z
          rw [ly, lx, z] at h1
          simp at h1
        rw [isAD_tup, decide_eq_false h2, Bool.false_and]
      have := q _ (Same.refl _)
      rw [e] at this
      exact this
    have hdl : ds.length = gs.length := by
      rw [ly, lx] at h1
      simp at h1
      omega
    refine ⟨.ref i, rfl, i, _, 1, .ref ga, rfl, rfl, hi, atI_nat (j := 1) rfl, .ref a, rfl, ga, a, xs, ys, rfl, .inr ⟨hg, ha, for_it (walk_zipT (K := K) (a := ga) (b := a) (xs := xs) (ys := ys) rfl)
      (fun j σ H2 => ∃ y2 y3 y4, σ = [some (.ref i), some (.ref a), y2, y3, y4, none, none] ∧ Same H H2 ∧ ((gs.take j).zip (ds.take j)).all (fun q => shareD q.1 q.2) = true)
      ⟨none, none, none, rfl, Same.refl _, rfl⟩ ?_ ?_ ?_⟩⟩
    · rintro j σ H2 _ ⟨y2, y3, y4, rfl, s2, _⟩
      exact ⟨(TupK.of s2).sq hg, (TupK.of s2).sq ha⟩
    · rintro j v σ H2 H3 hlt ⟨y2, y3, y4, rfl, s2, hall⟩ ⟨T, x, y, rfl, nT, rfl, hx, hy⟩
      have hx' : xs[j]? = some x := hx
      have hy' : ys[j]? = some y := hy
      obtain ⟨d, hd, hxd⟩ := DpAll.at hgs hx'
      rw [List.getElem?_map] at hd
      obtain ⟨g, hgi, rfl⟩ := Option.map_eq_some_iff.mp hd
      obtain ⟨dy, hdy, hyd⟩ := DqAll.at hds hy'
      obtain ⟨gA, pA, rfl, hG, hP⟩ := grp_ref hxd
      have s3 : Same H (upd H2 T (.tup [.ref gA, y])) := s2.trans (sameNew nT)
      have tk3 := TupK.of s3
      have hgl' := hgl g (List.mem_of_getElem? hgi)
      have hjl : j < gs.length := (List.getElem?_eq_some_iff.mp hgi).1
      have bad : shareD g dy = false → isAD cs gs (.tuple ds) = false := by
        intro hb
        cases hc2 : (gs.zip ds).all (fun q => shareD q.1 q.2) with
        | false => rw [isAD_tup, hc2, Bool.false_and, Bool.and_false]
        | true => rw [zip_at hc2 hgi hdy] at hb; cases hb
      refine ⟨T, _, rfl, SqT.of upd_same, rfl, .ref gA, _, rfl, ⟨gA, _, rfl, tk3.sq hG, rfl, .ref pA, _, rfl, .int g.2, _, rfl, rfl, y, _, rfl, rfl, ?_⟩⟩
      refine ⟨y, rfl, .ref pA, rfl, pA, _, rfl, .inr (tk3.sq hP), _, _, rfl, rfl, st, r, y, dy, _, rfl, hyd.lasts (.of s3), ?_, fun H4 s4 => ⟨_, rfl, ?_⟩⟩
      · rw [List.length_map]; omega
      rw [List.length_map]
      cases hf : formD ((g.1.length : Int) + 1) dy with
      | false =>
        refine iteT (iteT ?_)
        have := q _ (s3.trans s4)
        rw [bad (share_form hf)] at this
        exact this
      | true =>
        obtain ⟨row, er, hrl, hnn⟩ := form_row hf
        subst er
        have s34 := s3.trans s4
        have hdp : Dp K H4 y (dI row) := (hyd.lasts (.of s34)).to_dp (to_dI row)
        obtain ⟨ra, rfl, hR⟩ := dI_ref hdp
        have hss := share_sum hrl hnn
        refine iteF ⟨.ref ra, rfl, ra, row, rfl, hR, .int g.2, rfl, rfl, _, rfl, ite2 (fun h3 => ?_) (fun h3 => ?_)⟩
        · have := q _ s34
          rw [bad (by rw [hss]; simpa using h3)] at this
          exact this
        · refine ⟨_, _, _, rfl, s34, ?_⟩
          rw [zip_snoc hgi hdy, List.all_append, hall, Bool.true_and, List.all_cons, List.all_nil, Bool.and_true, hss]
          simpa using h3
    · rintro σ H2 ⟨y2, y3, y4, rfl, s2, hall⟩
      rw [lx, ly, zip_take, List.take_of_length_le (by rw [List.length_zip]; exact Nat.le_refl _)] at hall
      have e : isAD cs gs (.tuple ds) = ((loadsOf cs.length gs (ds.map rowD)).zip cs).all (fun q => decide (q.1 ≤ q.2)) := by
        rw [isAD_tup, hall, Bool.true_and, decide_eq_true hdl, Bool.true_and]
      have hR := rows_all hdl hall
      generalize hrw : ds.map rowD = rows at e hR
      have hA2 : Dp K H (.ref a) (dAsg rows) := by
        have : Dq K st r H (.ref a) (dAsg rows) := by unfold dAsg; rw [← hR]; exact .tup ha hds
        exact this.to_dp (to_dAsg rows)
      have tk2 := TupK.of s2
      refine ⟨.ref i, rfl, .ref a, rfl, i, a, cs, gs, rows, rfl, tk2.dp _ _ (to_dInst _ _) hI, tk2.dp _ _ (to_dAsg _) hA2, by omega, hin, fun H3 p s3 hp => ?_⟩
      have s03 := s2.trans s3
      have hi3 := (TupK.of s03).sq hi
      have hc3 := (TupK.of s03).sq hc
      refine ⟨.ref i, rfl, i, _, 0, .ref ca, rfl, rfl, hi3, atI_nat (j := 0) rfl, p, ca, _, _, rfl, SqL.of hp, hc3, fun D nD => lc_it (walk_zipM (K := K) (a := p) (b := ca) (xs := (loadsOf cs.length gs rows).map V.int) (ys := cs.map V.int) rfl)
        (fun j Hx => Same H3 Hx ∧ ∃ zs : List V, Hx D = some (.lst zs) ∧ zs.length ≤ j ∧ zs.isEmpty = (((loadsOf cs.length gs rows).take j).zip (cs.take j)).all (fun q => decide (q.1 ≤ q.2))) ⟨sameNew nD, [], upd_same, Nat.le_refl _, rfl⟩ (fun j Hx _ h2 => ⟨SqL.of (h2.1 _ _ hp), (TupK.of h2.1).sq hc3⟩) ?_ ?_⟩
      · rintro j v Hx Hx' hltj ⟨sx, zs, ex, hz, hem⟩ ⟨T, x, y, rfl, nT, rfl, hx, hy⟩
        have hx' : ((loadsOf cs.length gs rows).map V.int)[j]? = some x := hx
        have hy' : (cs.map V.int)[j]? = some y := hy
        rw [List.getElem?_map] at hx' hy'
        obtain ⟨lv, hlj, rfl⟩ := Option.map_eq_some_iff.mp hx'
        obtain ⟨cv, hcj, rfl⟩ := Option.map_eq_some_iff.mp hy'
        have hjl : j < cs.length := (List.getElem?_eq_some_iff.mp hcj).1
        refine ⟨T, _, rfl, SqT.of upd_same, rfl, _, _, rfl, _, _, rfl, rfl, rfl, .int lv, rfl, .int cv, rfl, _, _, rfl, rfl, _, rfl, ite2 (fun h3 => ?_) (fun h3 => ?_)⟩
        · refine ⟨_, upNew nT ex, ?_, samePut (sx.trans (sameNew nT)) nD, zs ++ [.int 1], upd_same, by simp; omega, ?_⟩
          · exact small (by omega)
          · have h4 : ¬ lv ≤ cv := by have := of_decide_eq_true h3; omega
            rw [zip_snoc hlj hcj, List.all_append, List.all_cons, decide_eq_false h4, Bool.false_and, Bool.and_false]; simp
        · have h4 : lv ≤ cv := by
            have h5 : ¬ cv < lv := fun z => h3 (decide_eq_true z)
            omega
          refine ⟨sx.trans (sameNew nT), zs, upNew nT ex, by omega, ?_⟩
          rw [zip_snoc hlj hcj, List.all_append, List.all_cons, List.all_nil, decide_eq_true h4, Bool.and_true, Bool.and_true]; exact hem
      · rintro Hx ⟨sx, zs, ex, hz, hem⟩
        rw [List.length_map, List.length_map, zip_take, List.take_of_length_le (by rw [List.length_zip]; exact Nat.le_refl _)] at hem
        refine ⟨Nat.zero_le _, fun p2 np => ⟨D, p2, zs, rfl, rfl, SqL.of (upNew np ex), SqL.of upd_same, ?_⟩⟩
        have := q _ ((s03.trans sx).trans (sameNew (o := .lst []) np))
        rw [e, ← hem] at this
        exact this
end
end Pv

namespace Pv
open PySem PySem.Spec PyProof.Rows L2
abbrev sOdd : Stmt := topS 14
abbrev sFirst : Stmt := topS 21
theorem scOdd : FnScope ["_law_state", "_law_some"] ["_law_state"] (defScope sOdd) := ⟨rfl, rfl, rfl, by decide +kernel, rfl, by decide +kernel, by decide +kernel⟩
theorem scFirst : FnScope ["_law_instance_here", "_law_posts", "_law_count"] ["_law_instance_here"] (defScope sFirst) := ⟨rfl, rfl, rfl, by decide +kernel, rfl, by decide +kernel, by decide +kernel⟩
def oddL : List PyData := [.none, .bool true, .bool false, .int 0, .int 1, .int (-1), .int (10 ^ (29 : Int).toNat), .str "", .str "0", .str "a", .tuple [], .list [], .dict [], .dict [(.str "a", .int 1)], .tuple [.int 0], .list [.int 0], .tuple [.tuple []], .tuple [.int 0, .int 1]]
theorem odd_fit : ∀ d ∈ oddL, Fit (10 ^ 29) 2 100 d := by
  intro d hd
  simp only [oddL, List.mem_cons, List.not_mem_nil, or_false] at hd
  rcases hd with rfl | rfl | rfl | rfl | rfl | rfl | rfl | rfl | rfl | rfl | rfl | rfl | rfl | rfl | rfl | rfl | rfl | rfl
  · exact ⟨by simp [fit], by simp [PyData.depth], by simp [wt]⟩
  · exact ⟨by simp [fit], by simp [PyData.depth], by simp [wt]⟩
  · exact ⟨by simp [fit], by simp [PyData.depth], by simp [wt]⟩
  · exact ⟨by simp [fit], by simp [PyData.depth], by simp [wt]⟩
  · exact ⟨by simp [fit], by simp [PyData.depth], by simp [wt]⟩
  · exact ⟨by simp [fit], by simp [PyData.depth], by simp [wt]⟩
  · exact ⟨by simp only [fit]; decide, by simp [PyData.depth], by simp [wt]⟩
  · exact ⟨by simp only [fit]; decide +kernel, by simp [PyData.depth], by simp [wt]⟩
  · exact ⟨by simp only [fit]; decide +kernel, by simp [PyData.depth], by simp [wt]⟩
  · exact ⟨by simp only [fit]; decide +kernel, by simp [PyData.depth], by simp [wt]⟩
  · exact ⟨by simp [fit, fitAll], by simp [PyData.depth, PyData.depthAll], by simp [wt, wtAll]⟩
  · exact ⟨by simp [fit, fitAll], by simp [PyData.depth, PyData.depthAll], by simp [wt, wtAll]⟩
  · exact ⟨by simp only [fit]; exact ⟨by decide +kernel, by simp [PyData.showable, PyData.showableKv]⟩, by simp [PyData.depth, PyData.depthKv], by simp [wt]⟩
  · exact ⟨by simp only [fit]; exact ⟨by decide +kernel, by simp [PyData.showable, PyData.showableKv]; decide⟩, by simp [PyData.depth, PyData.depthKv], by simp [wt]⟩
  · exact ⟨by simp [fit, fitAll], by simp [PyData.depth, PyData.depthAll], by simp [wt, wtAll]⟩
  · exact ⟨by simp [fit, fitAll], by simp [PyData.depth, PyData.depthAll], by simp [wt, wtAll]⟩
  · exact ⟨by simp [fit, fitAll], by simp [PyData.depth, PyData.depthAll], by simp [wt, wtAll]⟩
  · exact ⟨by simp [fit, fitAll], by simp [PyData.depth, PyData.depthAll], by simp [wt, wtAll]⟩
section
variable {P : Program} {w : World} {K : PySem.W.Frag} {mg : Str → Option Value} {base : Heap}
def spOdd (K : PySem.W.Frag) : Sp := fun vs H Q _ => ∃ (st c r : Addr) (t : Nat), vs = [.ref st] ∧ DS H st c r t ∧ t < 1000000 ∧
  ∀ (H' : Hp) (v : V) (d : PyData), DS H' st c r (t + 1) → Ext st r H H' → Dq K st r H' v d → Fit (10 ^ 29) 2 100 d → Q v H'
set_option maxHeartbeats 2000000 in
theorem ok_odd {f fD : Addr} {fd fdD : FuncData} {k : Nat} (F : Fun K "_law_odd" "_law_odd" sOdd f fd)
    (FD : Fun K "_law_draw" "_law_draw" sDraw fD fdD) (bD : Binds K fdD ["_law_state", "_law_below"] []) (gD : mg "_law_draw" = some (.ref fD)) (GD : FnOk P w K mg base CX0 1 fD fdD ["_law_state", "_law_below"] spDraw) :
    FnOk P w K mg base CX0 (1 + k + 1) f fd ["_law_state"] (spOdd K) := by
  refine F.ok scOdd (fun vs H Q E h => ?_) (fun cdv A outer s H vs Q E hr h => ?_)
  · obtain ⟨st, c, r, t, rfl, _⟩ := h; rfl
  · obtain ⟨st, c, r, t, rfl, ds, ht, q⟩ := h
    refine ⟨_, pss_cons (ps_set (i := 1) scOdd.nd rfl (.inl rfl) (pe_lst (pa_cons pe_non (pa_cons pe_bl (pa_cons pe_bl (pa_cons pe_int (pa_cons pe_int (pa_cons (pe_un un_neg pe_int) (pa_cons (pe_op op_pow pe_int pe_int)
        (pa_cons pe_str (pa_cons pe_str (pa_cons pe_str (pa_cons (pe_tup pa_nil) (pa_cons (pe_lstS pa_nil) (pa_cons pe_dnewK (pa_cons (pe_disp (pps_cons pe_str pe_int pps_nil) rfl rfl (by simp) (by decide))
        (pa_cons (pe_tup (pa_cons pe_int pa_nil)) (pa_cons (pe_lstS (pa_cons pe_int pa_nil)) (pa_cons (pe_tup (pa_cons (pe_tup pa_nil) pa_nil)) (pa_cons (pe_tup (pa_cons pe_int (pa_cons pe_int pa_nil))) pa_nil))))))))))))))))))))
      (pss_one (ps_ret (pe_ix ix_list (pv 1) (pe_call GD (hr.mono (by omega)) (by rfl) gD FD.kp bD .nil pass0 (pa_cons (pv 0) (pa_cons pe_int pa_nil))) (fun _ _ => rfl)))), ?_⟩
    refine ⟨1, rfl, _, _, rfl, rfl, ⟨by decide, by decide, by decide⟩, Nat.zero_le _, fun p1 n1 => ⟨Nat.zero_le _, fun p2 n2 m2 p3 n3 p4 n4 => ⟨upd_same, [(.inr "a", .int 1)], rfl, by decide, ?_⟩⟩⟩
    have h1 : Dq K st r (upd H p1 (.tup [])) (.ref p1) (.tuple []) := .tup (SqT.of upd_same) .nil
    have s1 : Same H (upd H p1 (.tup [])) := sameNew n1
    have d1 := ds.same s1
    obtain ⟨o1, _, o2⟩ := d1.off n2
    have h2 : Dq K st r (upd (upd H p1 (.tup [])) p2 (.lst [])) (.ref p2) (.list []) := .lst upd_same o1 o2 m2 .nil
    generalize e2 : upd (upd H p1 (.tup [])) p2 (.lst []) = H2 at *
    have s2 : Same (upd H p1 (.tup [])) H2 := by rw [← e2]; exact sameNew n2
    have h3 : Dq K st r (upd H2 p3 (.dK [])) (.ref p3) (.dict []) := .dct (kvs := []) upd_same
    have s3 : Same H2 (upd H2 p3 (.dK [])) := sameNew n3
    generalize e3 : upd H2 p3 (.dK []) = H3 at *
    rw [upd_upd]
    have h4 : Dq K st r (upd H3 p4 (.dK (mergeK [] [(.inr "a", .int 1)]))) (.ref p4) (.dict [(.str "a", .int 1)]) := .dct (kvs := [(.inr "a", 1)]) (by rw [upd_same]; rfl)
    have s4 : Same H3 (upd H3 p4 (.dK (mergeK [] [(.inr "a", .int 1)]))) := sameNew n4
    generalize e4 : upd H3 p4 (.dK (mergeK [] [(.inr "a", .int 1)])) = H4 at *
    refine ⟨by decide, fun p5 n5 => ⟨by decide, fun p6 n6 m6 => ⟨Nat.zero_le _, fun p7 n7 => ⟨(show (1 : Nat) ≤ sizeLine by decide), fun p8 n8 => ⟨by decide, fun p9 n9 => ⟨(show (18 : Nat) ≤ sizeLine by decide), fun L nL => ?_⟩⟩⟩⟩⟩⟩
    have h5 : Dq K st r (upd H4 p5 (.tup [.int 0])) (.ref p5) (.tuple [.int 0]) := .tup (SqT.of upd_same) (.cons (.int 0) .nil)
    have s5 : Same H4 (upd H4 p5 (.tup [.int 0])) := sameNew n5
    have s05 := (((s1.trans s2).trans s3).trans s4).trans s5
    obtain ⟨o3, _, o4⟩ := (ds.same s05).off n6
    generalize e5 : upd H4 p5 (.tup [.int 0]) = H5 at *
    have h6 : Dq K st r (upd H5 p6 (.lst [.int 0])) (.ref p6) (.list [.int 0]) := .lst upd_same o3 o4 m6 (.cons (.int 0) .nil)
    have s6 : Same H5 (upd H5 p6 (.lst [.int 0])) := sameNew n6
    generalize e6 : upd H5 p6 (.lst [.int 0]) = H6 at *
    have h7 : Dq K st r (upd H6 p7 (.tup [])) (.ref p7) (.tuple []) := .tup (SqT.of upd_same) .nil
    have s7 : Same H6 (upd H6 p7 (.tup [])) := sameNew n7
    generalize e7 : upd H6 p7 (.tup []) = H7 at *
    have s8 : Same H7 (upd H7 p8 (.tup [.ref p7])) := sameNew n8
    have h8 : Dq K st r (upd H7 p8 (.tup [.ref p7])) (.ref p8) (.tuple [.tuple []]) := .tup (SqT.of upd_same) (.cons (h7.lasts (.of s8)) .nil)
    generalize e8 : upd H7 p8 (.tup [.ref p7]) = H8 at *
    have s9 : Same H8 (upd H8 p9 (.tup [.int 0, .int 1])) := sameNew n9
    have h9 : Dq K st r (upd H8 p9 (.tup [.int 0, .int 1])) (.ref p9) (.tuple [.int 0, .int 1]) := .tup (SqT.of upd_same) (.cons (.int 0) (.cons (.int 1) .nil))
    generalize e9 : upd H8 p9 (.tup [.int 0, .int 1]) = H9 at *
    have s89 := s9
    have s79 := s8.trans s89
    have s69 := s7.trans s79
    have s59 := s6.trans s69
    have s49 := s5.trans s59
    have s39 := s4.trans s49
    have s29 := s3.trans s39
    have s19 := s2.trans s29
    have s09 := s1.trans s19
    have hall : DqAll K st r H9 [.non, .bl true, .bl false, .int 0, .int 1, .int (-1), .int (10 ^ (29 : Int).toNat), .str "", .str "0", .str "a", .ref p1, .ref p2, .ref p3, .ref p4, .ref p5, .ref p6, .ref p8, .ref p9] oddL :=
      .cons .non (.cons (.bl _) (.cons (.bl _) (.cons (.int _) (.cons (.int _) (.cons (.int _) (.cons (.int _) (.cons (.str _) (.cons (.str _) (.cons (.str _) (.cons (h1.lasts (.of s19)) (.cons (h2.lasts (.of s29)) (.cons (h3.lasts (.of s39)) (.cons (h4.lasts (.of s49))
        (.cons (h5.lasts (.of s59)) (.cons (h6.lasts (.of s69)) (.cons (h8.lasts (.of s89)) (.cons h9 .nil)))))))))))))))))
    have sL := sameNew (o := .lst [.non, .bl true, .bl false, .int 0, .int 1, .int (-1), .int (10 ^ (29 : Int).toNat), .str "", .str "0", .str "a", .ref p1, .ref p2, .ref p3, .ref p4, .ref p5, .ref p6, .ref p8, .ref p9]) nL
    have dL := ds.same (s09.trans sL)
    obtain ⟨oL1, _, oL2⟩ := (ds.same s09).off nL
    refine ⟨.ref L, rfl, .ref st, rfl, st, c, r, t, 18, rfl, dL, ht, by decide, by decide, fun H' d h0 h18 D' X' => ?_⟩
    obtain ⟨n, rfl⟩ : ∃ n : Nat, d = n := ⟨d.toNat, by omega⟩
    have hL := X' _ _ upd_same oL1 oL2
    have hallL := (hall.lasts (.of sL)).lasts (Lasts.ext dL X')
    generalize ev : ([.non, .bl true, .bl false, .int 0, .int 1, .int (-1), .int (10 ^ (29 : Int).toNat), .str "", .str "0", .str "a", .ref p1, .ref p2, .ref p3, .ref p4, .ref p5, .ref p6, .ref p8, .ref p9] : List V) = vals at *
    have hvl : vals.length = 18 := by rw [← ev]; rfl
    have hn : n < vals.length := by omega
    obtain ⟨dd, hdd, hdq⟩ := DqAll.at hallL (List.getElem?_eq_getElem hn)
    refine ⟨L, _, _, _, rfl, rfl, SqL.of ?_, atI_nat (List.getElem?_eq_getElem hn), q _ _ _ D' ((Ext.of (s09.trans sL)).trans X') hdq (odd_fit dd (List.mem_of_getElem? hdd))⟩
    exact hL
end
end Pv

namespace Pv
open PySem PySem.Spec PyProof.Rows L2
abbrev sCross : Stmt := topS 20
theorem scCross : FnScope ["_law_state", "_law_instance_here", "_law_assignment_here", "_law_group", "_law_numbers", "_law_one", "_law_other"] ["_law_state", "_law_instance_here", "_law_assignment_here"] (defScope sCross) := ⟨rfl, rfl, rfl, by decide +kernel, rfl, by decide +kernel, by decide +kernel⟩
theorem cut_from (xs : List V) (n : Nat) : cutV xs (some (n : Int)) none = xs.drop n := by
  unfold cutV
  rw [HT.sIx_nat, HT.sIx_none]
  by_cases h : n ≤ xs.length
  · rw [Nat.min_eq_left h, List.take_of_length_le (by rw [List.length_drop]; exact Nat.le_refl _)]
  · rw [Nat.min_eq_right (by omega), List.drop_eq_nil_of_le (Nat.le_refl _), List.drop_eq_nil_of_le (by omega)]; simp
theorem cut_last (xs : List V) : cutV xs (some (-1)) none = xs.drop (xs.length - 1) := by
  unfold cutV
  rw [HT.sIx_none]
  have e : HT.sIx xs.length 0 (some (-1)) = xs.length - 1 := by
    show (if (-1 : Int) < 0 then ((-1 : Int) + (xs.length : Int)).toNat else min (-1 : Int).toNat xs.length) = _
    rw [if_pos (by decide)]; omega
  rw [e, List.take_of_length_le (by rw [List.length_drop]; exact Nat.le_refl _)]
section
variable {P : Program} {w : World} {K : PySem.W.Frag} {mg : Str → Option Value} {base : Heap}
theorem sl_any {H : Hp} {a : Addr} {xs : List V} {lo hi : Option Int} (hP : SqT K H a xs) {Q : VK} (h : ∀ (H' : Hp) (b : Addr), Same H H' → SqT K H' b (cutV xs lo hi) → Q (.ref b) H') : rSlA K (.ref a) lo hi H Q := by
  refine ⟨a, _, rfl, hP, fun hw => ?_, fun _ p np => ?_⟩
  · refine h H a (Same.refl _) ?_
    have e : cutV xs lo hi = xs := by
      unfold cutV
      rw [hw.1, hw.2, List.drop_zero, Nat.sub_zero, List.take_length]
    rw [e]; exact hP
  · exact h _ p (sameNew np) (SqT.of upd_same)
theorem cat_any {H : Hp} {a b : Addr} {xs ys : List V} (ha : SqT K H a xs) (hb : SqT K H b ys) (hz : xs.length + ys.length ≤ 1000000) {Q : VK} (h : ∀ (H' : Hp) (c : Addr), Same H H' → SqT K H' c (xs ++ ys) → Q (.ref c) H') : rCatA K (.ref a) (.ref b) H Q := by
  refine ⟨a, b, xs, ys, rfl, rfl, ha, hb, Nat.le_of_lt (small hz), fun z => ?_, fun _ z => ?_, fun _ _ p np => ?_⟩
  · subst z; exact h H b (Same.refl _) hb
  · subst z; exact h H a (Same.refl _) (by rw [List.append_nil]; exact ha)
  · exact h _ p (sameNew np) (SqT.of upd_same)
def firstRow (g : Gp) : List Int := g.2 :: zeros g.1.length
def spFirst (K : PySem.W.Frag) : Sp := fun vs H Q _ => ∃ (i : Addr) (cs : List Int) (gs : List Gp), vs = [.ref i] ∧ Dp K H (.ref i) (dInst cs gs) ∧ gs.length ≤ 1000 ∧ (∀ g ∈ gs, g.1.length ≤ 900) ∧
  ∀ H' p, Same H H' → Dp K H' (.ref p) (dAsg (gs.map firstRow)) → Q (.ref p) H'
theorem ok_first {f : Addr} {fd : FuncData} {k : Nat} (F : Fun K "_law_first" "_law_first" sFirst f fd) (ml : mg "len" = none) (mt : mg "tuple" = none) :
    FnOk P w K mg base CX0 (k + 1) f fd ["_law_instance_here"] (spFirst K) := by
  refine F.ok scFirst (fun vs H Q E h => ?_) (fun cdv A outer s H vs Q E hr h => ?_)
  · obtain ⟨i, cs, gs, rfl, _⟩ := h; rfl
  · obtain ⟨i, cs, gs, rfl, hI, hn, hle, q⟩ := h
    refine ⟨_, pss_one (ps_ret (pe_callTy call_tuple_of (by rfl) mt (by decide +kernel) (pa_cons
          (pe_lc (own := [("_law_posts", 1), ("_law_count", 2)]) (g := gTup K 2 (gCons (gName 1) (gCons (gName 2) gNil))) (tt := tYes) (te := tOp (rCatA K) (tTup (tCons (tVar 2) tNil)) (tOp (rRepA K) (tTup (tCons (tC (.int 0)) tNil)) (tCB (rLenQ K) (tCons (tVar 1) tNil)))) rfl scFirst.nd (pi_tup (pe_ix ix_tup (pv 0) pe_int (fun _ _ => rfl))) (blkOk_by (N := ["_law_instance_here", "_law_posts", "_law_count"]) (sc := defScope sFirst) (by decide +kernel))
            (fun _ _ _ _ _ => pg_tup rfl (pgs_cons (pg_name (i := 1) scFirst.nd rfl (.inl rfl)) (pgs_cons (pg_name (i := 2) scFirst.nd rfl (.inl rfl)) pgs_nil))) (fun _ _ _ _ _ => pts_nil)
            (fun _ _ _ _ _ => pe_op op_catA (pe_tup (pa_cons (pv 2) pa_nil)) (pe_op op_repA (pe_tup (pa_cons pe_int pa_nil)) (pe_callB call_lenQ (by rfl) ml PySem.boot_len (pa_cons (pv 1) pa_nil)))))
          pa_nil))), ?_⟩
    obtain ⟨_, ca, ga, xs, e, hi, hc, hg, hgs⟩ := inst_open hI
    cases e
    refine ⟨.ref i, rfl, i, _, 1, .ref ga, rfl, rfl, hi, atI_nat (j := 1) rfl, ga, rfl, ⟨_, hg⟩, fun D nD => lc_tup (xs := xs)
      (fun j H2 => Same H H2 ∧ ∃ vs, H2 D = some (.lst vs) ∧ vs.length = j ∧ DpAll K H2 vs (((gs.take j).map firstRow).map dI)) ⟨sameNew nD, [], upd_same, rfl, .nil⟩ (fun j H2 _ h2 => (TupK.of h2.1).sq hg) ?_ ?_⟩
    · rintro j x H2 hx ⟨s2, vs, e2, hvl, hvs⟩
      obtain ⟨d, hd, hxd⟩ := DpAll.at hgs hx
      rw [List.getElem?_map] at hd
      obtain ⟨g, hgi, rfl⟩ := Option.map_eq_some_iff.mp hd
      obtain ⟨gA, pA, rfl, hG, hP⟩ := grp_ref hxd
      have tk2 := TupK.of s2
      have hgl := hle g (List.mem_of_getElem? hgi)
      have hjl : j < gs.length := (List.getElem?_eq_some_iff.mp hgi).1
      have fin : ∀ (H4 : Hp) (p : Addr), Same H2 H4 → SqT K H4 p ((firstRow g).map V.int) → ∃ acc, H4 D = some (.lst acc) ∧ acc.length < sizeLine ∧
          (Same H (upd H4 D (.lst (acc ++ [.ref p]))) ∧ ∃ vs, (upd H4 D (.lst (acc ++ [.ref p]))) D = some (.lst vs) ∧ vs.length = j + 1 ∧ DpAll K (upd H4 D (.lst (acc ++ [.ref p]))) vs (((gs.take (j + 1)).map firstRow).map dI)) := by
        intro H4 p s4 h4
        have e4 := s4 _ _ e2
        have tk4 : TupK H4 (upd H4 D (.lst (vs ++ [.ref p]))) := TupK.put e4
        refine ⟨vs, e4, by rw [hvl]; exact small (by omega), samePut (s2.trans s4) nD, _, upd_same, by simp [hvl], ?_⟩
        have et : ((gs.take (j + 1)).map firstRow).map dI = ((gs.take j).map firstRow).map dI ++ [dI (firstRow g)] := by rw [List.take_add_one, hgi]; simp
        rw [et]
        exact DpAll.snoc (((TupK.of s4).trans tk4).dpAll _ _ (to_rows _) hvs) (dI_sq (tk4.sq h4))
      refine ⟨gA, _, rfl, tk2.sq hG, rfl, _, _, rfl, _, _, rfl, rfl, rfl, .int g.2, rfl, (show (1 : Nat) ≤ sizeLine by decide), fun p0 n0 => ⟨by decide, fun p1 n1 => ?_⟩⟩
      have tk3 : TupK H2 (upd (upd H2 p0 (.tup [.int g.2])) p1 (.tup [.int 0])) := (TupK.new n0).trans (TupK.new n1)
      have s3 : Same H2 (upd (upd H2 p0 (.tup [.int g.2])) p1 (.tup [.int 0])) := (sameNew n0).trans (sameNew n1)
      refine ⟨.ref pA, rfl, pA, _, rfl, .inr (tk3.sq (tk2.sq hP)), p1, (g.1.map V.int).length, _, rfl, rfl, SqT.of upd_same, by simp, by rw [List.length_map]; omega, by decide, fun h1 => ?_, fun h1 p2 n2 => ?_⟩
      · refine cat_any (xs := [.int g.2]) (ys := [.int 0]) (SqT.of (upNew n1 upd_same)) (SqT.of upd_same) (show (1 + 1 : Nat) ≤ 1000000 by decide) (fun H' c s' hc' => fin _ _ (s3.trans s') ?_)
        rw [List.length_map] at h1
        unfold firstRow
        rw [h1]
        exact hc'
      · have er : (List.replicate (g.1.map V.int).length [V.int 0]).flatten = (zeros g.1.length).map V.int := by rw [List.length_map, zeros_V]
        rw [er]
        refine cat_any (SqT.of (upNew n2 (upNew n1 upd_same))) (SqT.of upd_same) (by rw [List.length_map]; simp [zeros]; omega) (fun H' c s' hc' => fin _ _ ((s3.trans (sameNew n2)).trans s') ?_)
        exact hc'
    · rintro H2 ⟨s2, vs, e2, hvl, hvs⟩
      rw [DpAll.len hgs, List.length_map, List.take_length] at hvs
      exact ⟨D, _, rfl, .inl ⟨SqL.of e2, fun p np => q _ _ (s2.trans (sameNew np)) (.tup (SqT.of upd_same) ((TupK.new np).dpAll _ _ (to_rows _) hvs))⟩⟩
def RowsIn (lo hi : Int) (rows : List (List Int)) : Prop := ∀ row ∈ rows, 1 ≤ row.length ∧ row.length ≤ 10 ∧ ∀ x ∈ row, lo ≤ x ∧ x ≤ hi
def spCross (K : PySem.W.Frag) : Sp := fun vs H Q _ => ∃ (st c r i a : Addr) (t : Nat) (rows : List (List Int)), vs = [.ref st, .ref i, .ref a] ∧ DS H st c r t ∧ t + 10 ≤ 1000000 ∧ Dp K H (.ref a) (dAsg rows) ∧ 1 ≤ rows.length ∧ rows.length ≤ 20 ∧
  RowsIn 0 (10 ^ 12) rows ∧ ∀ (H' : Hp) (p : Addr) (t' : Nat) (rows' : List (List Int)), DS H' st c r t' → t' ≤ t + 10 → Ext st r H H' → Dp K H' (.ref p) (dAsg rows') → rows'.length ≤ 20 → RowsIn (-2) (10 ^ 12 + 2) rows' → Q (.ref p) H'
theorem dp_take {H : Hp} : ∀ {vs : List V} {ds : List PyData} (n : Nat), DpAll K H vs ds → DpAll K H (vs.take n) (ds.take n)
  | _, _, 0, _ => .nil
  | _, _, _ + 1, .nil => .nil
  | _, _, n + 1, .cons h t => .cons h (dp_take n t)
theorem dp_drop {H : Hp} : ∀ {vs : List V} {ds : List PyData} (n : Nat), DpAll K H vs ds → DpAll K H (vs.drop n) (ds.drop n)
  | _, _, 0, h => h
  | _, _, _ + 1, .nil => .nil
  | _, _, n + 1, .cons _ t => dp_drop n t
theorem dp_app {H : Hp} : ∀ {vs ws : List V} {ds es : List PyData}, DpAll K H vs ds → DpAll K H ws es → DpAll K H (vs ++ ws) (ds ++ es)
  | _, _, _, _, .nil, h => h
  | _, _, _, _, .cons h t, h' => .cons h (dp_app t h')
set_option maxHeartbeats 2000000 in
theorem ok_cross {f fD : Addr} {fd fdD : FuncData} {k : Nat} (F : Fun K "_law_crossed" "_law_crossed" sCross f fd)
    (FD : Fun K "_law_draw" "_law_draw" sDraw fD fdD) (bD : Binds K fdD ["_law_state", "_law_below"] []) (gD : mg "_law_draw" = some (.ref fD)) (GD : FnOk P w K mg base CX0 1 fD fdD ["_law_state", "_law_below"] spDraw)
    (ml : mg "len" = none) (mli : mg "list" = none) (mt : mg "tuple" = none) : FnOk P w K mg base CX0 (1 + k + 1) f fd ["_law_state", "_law_instance_here", "_law_assignment_here"] (spCross K) := by
  refine F.ok scCross (fun vs H Q E h => ?_) (fun cdv A outer s H vs Q E hr h => ?_)
  · obtain ⟨st, c, r, i, a, t, rows, rfl, _⟩ := h; rfl
  · obtain ⟨st, c, r, i, a, t, rows, rfl, d0, ht, hA, h1, h20, hrows, q⟩ := h
    refine ⟨_, pss_cons (ps_set (i := 3) scCross.nd rfl (.inl rfl) (pe_call GD (hr.mono (by omega)) (by rfl) gD FD.kp bD .nil pass0 (pa_cons (pv 0) (pa_cons (pe_callB call_len_seq (by rfl) ml PySem.boot_len (pa_cons (pv 2) pa_nil)) pa_nil))))
      (pss_cons (ps_set (i := 4) scCross.nd rfl (.inl rfl) (pe_callTy call_list_of (by rfl) mli (by decide +kernel) (pa_cons (pe_ix ix_tup (pv 2) (pv 3) (fun _ _ => rfl)) pa_nil)))
      (pss_cons (ps_par (i := 5) (j := 6) rfl scCross.nd rfl rfl (by decide) rfl rfl (pa_cons (pe_call GD (hr.mono (by omega)) (by rfl) gD FD.kp bD .nil pass0 (pa_cons (pv 0) (pa_cons (pe_callB call_len_seq (by rfl) ml PySem.boot_len (pa_cons (pv 4) pa_nil)) pa_nil)))
        (pa_cons (pe_call GD (hr.mono (by omega)) (by rfl) gD FD.kp bD .nil pass0 (pa_cons (pv 0) (pa_cons (pe_callB call_len_seq (by rfl) ml PySem.boot_len (pa_cons (pv 4) pa_nil)) pa_nil))) pa_nil)) rfl)
      (pss_cons (ps_asg (pe_tup (pa_cons (pe_op op_sub (pe_ix ix_list (pv 4) (pv 5) (fun _ _ => rfl)) pe_int) (pa_cons (pe_op op_add (pe_ix ix_list (pv 4) (pv 6) (fun _ _ => rfl)) pe_int) pa_nil)))
        (pg_tup rfl (pgs_cons (pg_sub (pv 4) (pv 5) set_list) (pgs_cons (pg_sub (pv 4) (pv 6) set_list) pgs_nil))))
      (pss_one (ps_ret (pe_op op_catA (pe_op op_catA (pe_slice sl_tupA (pv 2) po_none (po_some (pv 3))) (pe_tup (pa_cons (pe_callTy call_tuple_of (by rfl) mt (by decide +kernel) (pa_cons (pv 4) pa_nil)) pa_nil)))
        (pe_slice sl_tupA (pv 2) (po_some (pe_op op_add (pv 3) pe_int)) po_none))))))), ?_⟩
    obtain ⟨_, ys, e, ha, hys⟩ := asg_open hA
    cases e
    have ly := DpAll.len hys
    rw [List.length_map] at ly
    -- group
    refine ⟨.ref st, rfl, .ref a, rfl, a, ys, rfl, .inr ha, st, c, r, t, _, rfl, d0, by omega, by omega, by omega, fun H1 g g0 g1 D1 X1 => ?_⟩
    obtain ⟨gn, rfl⟩ : ∃ n : Nat, g = n := ⟨g.toNat, by omega⟩
    have hgn : gn < ys.length := by omega
    have tk1 := X1.tup d0
    obtain ⟨dr, hdr, hyd⟩ := DpAll.at hys (List.getElem?_eq_getElem hgn)
    rw [List.getElem?_map] at hdr
    obtain ⟨row, hri, rfl⟩ := Option.map_eq_some_iff.mp hdr
    obtain ⟨ra, era, hR⟩ := dI_ref hyd
    have hrow := hrows row (List.mem_of_getElem? hri)
    -- numbers
    refine ⟨.ref a, rfl, .int gn, rfl, a, ys, _, _, rfl, rfl, tk1.sq ha, atI_nat (List.getElem?_eq_getElem hgn), ra, _, by rw [era], .inr (tk1.sq hR), fun L nL => ?_⟩
    have sL : Same H1 (upd H1 L (.lst (row.map V.int))) := sameNew nL
    have DL := D1.same sL
    obtain ⟨oL1, _, oL2⟩ := D1.off nL
    -- one, other
    refine ⟨.ref st, rfl, .ref L, rfl, L, _, rfl, .inl (SqL.of upd_same), st, c, r, _, _, rfl, DL, by omega, by rw [List.length_map]; omega, by rw [List.length_map]; omega, fun H2 p p0 p1 D2 X2 => ?_⟩
    have eL2 := X2 _ _ upd_same oL1 oL2
    refine ⟨.ref st, rfl, .ref L, rfl, L, _, rfl, .inl (SqL.of eL2), st, c, r, _, _, rfl, D2, by omega, by rw [List.length_map]; omega, by rw [List.length_map]; omega, fun H3 o q0 q1 D3 X3 => ⟨_, _, rfl, ?_⟩⟩
    have eL3 := X3 _ _ eL2 oL1 oL2
    rw [List.length_map] at p1 q1
    obtain ⟨pn, rfl⟩ : ∃ n : Nat, p = n := ⟨p.toNat, by omega⟩
    obtain ⟨on, rfl⟩ : ∃ n : Nat, o = n := ⟨o.toNat, by omega⟩
    have hpn : pn < row.length := by omega
    have hon : on < row.length := by omega
    have hp : (row.map V.int)[pn]? = some (.int row[pn]) := by rw [List.getElem?_map, List.getElem?_eq_getElem hpn]; rfl
    have ho : (row.map V.int)[on]? = some (.int row[on]) := by rw [List.getElem?_map, List.getElem?_eq_getElem hon]; rfl
    -- the two stores
    refine ⟨.ref L, rfl, .int pn, rfl, L, _, _, _, rfl, rfl, SqL.of eL3, atI_nat hp, _, _, rfl, rfl, .ref L, rfl, .int on, rfl, L, _, _, _, rfl, rfl, SqL.of eL3, atI_nat ho, _, _, rfl, rfl, (show (2 : Nat) ≤ sizeLine by decide), fun T nT => ?_⟩
    have eL4 := upNew (o := .tup [.int (row[pn] - 1), .int (row[on] + 1)]) nT eL3
    refine ⟨T, _, rfl, SqT.of upd_same, rfl, _, _, rfl, .ref L, rfl, .int pn, rfl, L, _, _, pn, rfl, rfl, eL4, ixN_nat (by rw [List.length_map]; exact hpn), _, _, rfl, .ref L, rfl, .int on, rfl, L, _, _, on, rfl, rfl, upd_same, ixN_nat (by rw [List.length_set, List.length_map]; exact hon), rfl, ?_⟩
    rw [upd_upd]
    have erow : ((row.map V.int).set pn (.int (row[pn] - 1))).set on (.int (row[on] + 1)) = (((row.set pn (row[pn] - 1)).set on (row[on] + 1))).map V.int := by rw [List.map_set, List.map_set]
    rw [erow]
    have hnew : ∀ x ∈ ((row.set pn (row[pn] - 1)).set on (row[on] + 1)), -2 ≤ x ∧ x ≤ 10 ^ 12 + 2 := by
      intro x hx
      have hb := hrow.2.2
      have b1 := hb row[pn] (List.getElem_mem hpn)
      have b2 := hb row[on] (List.getElem_mem hon)
      rcases List.mem_or_eq_of_mem_set hx with h | rfl
      · rcases List.mem_or_eq_of_mem_set h with h | rfl
        · have := hb x h; omega
        · omega
      · omega
    have hnl : ((row.set pn (row[pn] - 1)).set on (row[on] + 1)).length = row.length := by rw [List.length_set, List.length_set]
    generalize hrw : (row.set pn (row[pn] - 1)).set on (row[on] + 1) = row2 at *
    -- the heap behind the stores
    have X4 : Ext st r H (upd (upd H3 T (.tup [.int (row[pn] - 1), .int (row[on] + 1)])) L (.lst (row2.map V.int))) := by
      have x1 : Ext st r H1 H3 := ((Ext.of sL).trans X2).trans X3
      have x2 : Ext st r H1 (upd H3 T (.tup [.int (row[pn] - 1), .int (row[on] + 1)])) := x1.trans (Ext.of (sameNew nT))
      exact X1.trans (ExtPut x2 nL)
    have D4 : DS (upd (upd H3 T (.tup [.int (row[pn] - 1), .int (row[on] + 1)])) L (.lst (row2.map V.int))) st c r (t + 1 + 1 + 1) := (D3.new nT).put oL1 (D1.off nL).2.1 oL2
    generalize hH5 : upd (upd H3 T (.tup [.int (row[pn] - 1), .int (row[on] + 1)])) L (.lst (row2.map V.int)) = H5 at *
    have eL5 : H5 L = some (.lst (row2.map V.int)) := by rw [← hH5]; exact upd_same
    have tk5 := X4.tup d0
    -- the result
    refine ⟨.ref a, rfl, .int gn, rfl, gn, rfl, sl_any (tk5.sq ha) (fun H6 b6 s6 hb6 => ?_)⟩
    rw [cut_to] at hb6
    refine ⟨.ref L, rfl, L, _, rfl, .inl ⟨SqL.of (s6 _ _ eL5), fun R nR => ⟨(show (1 : Nat) ≤ sizeLine by decide), fun R2 nR2 => ?_⟩⟩⟩
    refine cat_any ((TupK.new nR2).sq ((TupK.new nR).sq hb6)) (SqT.of upd_same) (by rw [List.length_take]; simp; omega) (fun H7 b7 s7 hb7 => ?_)
    have s67 := (s6.trans ((sameNew nR).trans (sameNew nR2))).trans s7
    refine ⟨.ref a, rfl, .int gn, rfl, _, _, rfl, rfl, ((gn + 1 : Nat) : Int), by simp, ?_⟩
    dsimp only [tNoPart]
    refine sl_any (K := K) (a := a) (xs := ys) (lo := some ((gn + 1 : Nat) : Int)) (hi := none) (H := H7) ((TupK.of s67).sq (tk5.sq ha)) (fun H8 b8 s8 hb8 => ?_)
    rw [cut_from] at hb8
    refine cat_any ((TupK.of s8).sq hb7) hb8 (by simp; omega) (fun H9 b9 s9 hb9 => ?_)
    have hRq : SqT K H9 R (row2.map V.int) := (TupK.of ((((sameNew nR2).trans s7).trans s8).trans s9)).sq (SqT.of upd_same)
    have s59 := (s67.trans s8).trans s9
    refine q H9 b9 _ (rows.take gn ++ [row2] ++ rows.drop (gn + 1)) (D4.same s59) (by omega) (X4.trans (Ext.of s59)) ?_ ?_ ?_
    · unfold dAsg
      rw [List.map_append, List.map_append, List.map_take, List.map_drop]
      refine .tup hb9 (dp_app (dp_app (dp_take _ ?_) (.cons (dI_sq hRq) .nil)) (dp_drop _ ?_))
      · exact (tk5.trans (TupK.of s59)).dpAll _ _ (to_rows _) hys
      · exact (tk5.trans (TupK.of s59)).dpAll _ _ (to_rows _) hys
    · simp; omega
    · intro x hx
      rw [List.append_assoc, List.mem_append, List.mem_append, List.mem_singleton] at hx
      rcases hx with h | rfl | h
      · have := hrows x (List.mem_of_mem_take h)
        exact ⟨this.1, this.2.1, fun y hy => by have := this.2.2 y hy; omega⟩
      · exact ⟨by omega, by omega, hnew⟩
      · have := hrows x (List.mem_of_mem_drop h)
        exact ⟨this.1, this.2.1, fun y hy => by have := this.2.2 y hy; omega⟩
end
end Pv

namespace Pv
open PySem PySem.Spec PyProof.Rows L2
abbrev sBent : Stmt := topS 15
theorem scBent : FnScope ["_law_state", "_law_value", "_law_spot", "_law_way"] ["_law_state", "_law_value"] (defScope sBent) := ⟨rfl, rfl, rfl, by decide +kernel, rfl, by decide +kernel, by decide +kernel⟩
theorem seq_with {t u : TS} {D : Ends} {σ : L2.St} {H : Hp} (Pre : L2.St → Hp → Prop) (rest : ∀ σ1 H1, Pre σ1 H1 → u D σ1 H1) (main : (∀ σ1 H1, Pre σ1 H1 → u D σ1 H1) → tSeq t u D σ H) : tSeq t u D σ H := main rest
theorem fit_sub {M k W W' : Nat} {ds es : List PyData} (h : Fit M k W (.tuple ds)) (hs : ∀ e ∈ es, e ∈ ds) (hw : wtAll es + 3 ≤ W') : Fit (M + 1) (k + 2) W' (.tuple es) := by
  obtain ⟨h1, h2, _⟩ := h.parts
  exact Fit.tup (fun e he => ⟨fit_mono (by omega) (h1 e (hs e he)).1, by have := (h1 e (hs e he)).2; omega⟩) (by omega) hw
theorem fit_subL {M k W W' : Nat} {ds es : List PyData} (h : Fit M k W (.tuple ds)) (hs : ∀ e ∈ es, e ∈ ds) (hw : wtAll es + 3 ≤ W') : Fit (M + 1) (k + 2) W' (.list es) := by
  obtain ⟨h1, h2, _⟩ := h.parts
  exact Fit.lst (fun e he => ⟨fit_mono (by omega) (h1 e (hs e he)).1, by have := (h1 e (hs e he)).2; omega⟩) (by omega) hw
theorem wtAll_at {ds : List PyData} {i : Nat} {d : PyData} (h : ds[i]? = some d) : wtAll ds = wtAll (ds.take i) + (wt d + 2) + wtAll (ds.drop (i + 1)) := by
  have e : ds.take (i + 1) = ds.take i ++ [d] := take_snoc h
  have := wtAll_split ds (i + 1)
  rw [e, wtAll_app] at this
  simp only [wtAll] at this
  omega
section
variable {P : Program} {w : World} {K : PySem.W.Frag} {mg : Str → Option Value} {base : Heap}
def spB (K : PySem.W.Frag) : Nat → Sp
  | 0 => fun _ _ _ _ => False
  | n + 1 => fun vs H Q _ => ∃ (st c r : Addr) (t : Nat) (v : V) (d : PyData) (M k W : Nat), vs = [.ref st, v] ∧ DS H st c r t ∧ t + 10 * (n + 1) ≤ 1000000 ∧ Dq K st r H v d ∧ Fit M k W d ∧ 10 ^ 29 ≤ M ∧ W ≤ 100000 ∧ d.depth + 2 ≤ n ∧
    ∀ (H' : Hp) (v' : V) (d' : PyData) (t' : Nat), DS H' st c r t' → t' ≤ t + 10 * (n + 1) → Ext st r H H' → Dq K st r H' v' d' → Fit (M + 1) (k + 2) (2 * W + 100) d' → Q v' H'
set_option maxHeartbeats 4000000 in
theorem ok_bent {f fD fO : Addr} {fd fdD fdO : FuncData} (F : Fun K "_law_bent" "_law_bent" sBent f fd) (b : Binds K fd ["_law_state", "_law_value"] []) (g : mg "_law_bent" = some (.ref f))
    (FD : Fun K "_law_draw" "_law_draw" sDraw fD fdD) (bD : Binds K fdD ["_law_state", "_law_below"] []) (gD : mg "_law_draw" = some (.ref fD)) (GD : FnOk P w K mg base CX0 1 fD fdD ["_law_state", "_law_below"] spDraw)
    (FO : Fun K "_law_odd" "_law_odd" sOdd fO fdO) (bO : Binds K fdO ["_law_state"] []) (gO : mg "_law_odd" = some (.ref fO)) (GO : FnOk P w K mg base CX0 2 fO fdO ["_law_state"] (spOdd K))
    (mi : mg "isinstance" = none) (mt : mg "tuple" = none) (ml : mg "len" = none) (mli : mg "list" = none) (mint : mg "int" = none) (mb : mg "bool" = none) :
    ∀ n, FnOk P w K mg base CX0 n f fd ["_law_state", "_law_value"] (spB K n)
  | 0 => ⟨fun _ _ _ _ h => h.elim, fun _ _ _ _ _ _ _ _ _ _ _ _ _ h => h.elim⟩
  | n + 1 => by
    have G := ok_bent F b g FD bD gD GD FO bO gO GO mi mt ml mli mint mb n
    refine F.ok scBent (fun vs H Q E h => ?_) (fun cdv A outer s H vs Q E hr h => ?_)
    · obtain ⟨st, c, r, t, v, d, M, k, W, rfl, _⟩ := h; rfl
    · obtain ⟨st, c, r, t, v, d, M, k, W, rfl, d0, ht, hd, hf, hM, hW, hdep, q⟩ := h
      have hu0 : (A.deeper (envOfC "_law_bent" (defScope sBent) s.heap.objs.size f cdv)).units < cLine := by have := hr.un; omega
      refine ⟨_, pss_cons (ps_if (PW.pt (pw_and (pt_val (pe_callB call_isi (by rfl) mi (by decide +kernel) (pa_cons (pv 1) (pa_cons (pe_bltn (v := .ty "tuple") (by rfl) mt (by decide +kernel) rfl) pa_nil))))
            (pw_and (pt_cmpR (op_neNilT hu0) (pv 1) (pe_tup pa_nil) (nomark _)) (pw_and1 (pt_cmpR op_gt (pe_call GD (hr.mono (by omega)) (by rfl) gD FD.kp bD .nil pass0 (pa_cons (pv 0) (pa_cons pe_int pa_nil))) pe_int (nomark _))))))
          (pss_cons (ps_set (i := 2) scBent.nd rfl (.inl rfl) (pe_call GD (hr.mono (by omega)) (by rfl) gD FD.kp bD .nil pass0 (pa_cons (pv 0) (pa_cons (pe_callB call_len_seq (by rfl) ml PySem.boot_len (pa_cons (pv 1) pa_nil)) pa_nil))))
          (pss_one (ps_ret (pe_op op_catA (pe_op op_catA (pe_slice sl_tupA (pv 1) po_none (po_some (pv 2))) (pe_tup (pa_cons (pe_call G hr (by rfl) g F.kp b .nil pass0 (pa_cons (pv 0) (pa_cons (pe_ix ix_tup (pv 1) (pv 2) (fun _ _ => rfl)) pa_nil))) pa_nil)))
            (pe_slice sl_tupA (pv 1) (po_some (pe_op op_add (pv 2) pe_int)) po_none))))) pss_nil)
        (pss_cons (ps_set (i := 3) scBent.nd rfl (.inl rfl) (pe_call GD (hr.mono (by omega)) (by rfl) gD FD.kp bD .nil pass0 (pa_cons (pv 0) (pa_cons pe_int pa_nil))))
        (pss_cons (ps_if (PW.pt (pw_and (pt_val (pe_callB call_isi (by rfl) mi (by decide +kernel) (pa_cons (pv 1) (pa_cons (pe_bltn (v := .ty "tuple") (by rfl) mt (by decide +kernel) rfl) pa_nil)))) (pw_and1 (pt_cmpR op_lt (pv 3) pe_int (nomark _)))))
          (pss_one (ps_ret (pe_ix ix_list (pe_lst (pa_cons (pe_slice sl_tupA (pv 1) (po_some pe_int) po_none) (pa_cons (pe_op op_catA (pv 1) (pe_slice sl_tupA (pv 1) (po_some (pe_un un_neg pe_int)) po_none))
            (pa_cons (pe_callTy call_listS (by rfl) mli (by decide +kernel) (pa_cons (pv 1) pa_nil)) (pa_cons (pe_revT (pv 1)) pa_nil))))) (pv 3) (fun _ _ => rfl)))) pss_nil)
        (pss_cons (ps_if (PW.pt (pw_and (pt_val (pe_callB call_isi (by rfl) mi (by decide +kernel) (pa_cons (pv 1) (pa_cons (pe_bltn (v := .ty "int") (by rfl) mint (by decide +kernel) rfl) pa_nil))))
            (pw_and (pt_not (pt_val (pe_callB call_isi (by rfl) mi (by decide +kernel) (pa_cons (pv 1) (pa_cons (pe_bltn (v := .ty "bool") (by rfl) mb (by decide +kernel) rfl) pa_nil))))) (pw_and1 (pt_cmpR op_lt (pv 3) pe_int (nomark _))))))
          (pss_one (ps_ret (pe_ix ix_list (pe_lst (pa_cons (pe_op op_add (pv 1) pe_int) (pa_cons (pe_op op_sub (pv 1) pe_int) (pa_cons (pe_cmpR op_eq (pv 1) pe_int (nomark _)) (pa_cons (pe_op op_sub pe_int (pv 1)) pa_nil))))) (pv 3) (fun _ _ => rfl)))) pss_nil)
        (pss_one (ps_ret (pe_call GO (hr.mono (by omega)) (by rfl) gO FO.kp bO .nil pass0 (pa_cons (pv 0) pa_nil))))))), ?_⟩
      refine seq_with (fun σ1 H1 => σ1 = [some (.ref st), some v, none, none] ∧ ∃ t1, DS H1 st c r t1 ∧ t1 ≤ t + 1 ∧ Ext st r H H1) ?rest (fun rest => ?main)
      case main =>
        refine ⟨v, rfl, v, .ty "tuple", _, _, _, rfl, .ty _, hd.ty, kit_tup d, _, rfl, ite2 (fun h1 => ?_) (fun h1 => ?_)⟩
        · cases d with
          | none | bool _ | int _ | str _ | list _ | dict _ => simp [isTup] at h1
          | tuple ds =>
          cases hd with
          | @tup a xs _ hT ha =>
          have hl := DqAll.len ha
          obtain ⟨hp1, hp2, hp3⟩ := hf.parts
          have hwl := wtAll_len ds
          refine ⟨.ref a, rfl, Nat.zero_le _, fun e ne => ⟨a, e, xs, rfl, rfl, (TupK.new ne).sq hT, SqT.of upd_same, _, rfl, ite2 (fun h2 => ?_) (fun h2 => ?_)⟩⟩
          · have hxs : 0 < xs.length := by
              cases xs with
              | nil => simp at h2
              | cons _ _ => simp
            have se : Same H (upd H e (.tup [])) := sameNew ne
            refine ⟨.ref st, rfl, st, c, r, t, 5, rfl, d0.same se, by omega, by decide, by decide, fun H1 g5 g50 g51 D1 X1 => ⟨_, _, rfl, rfl, _, rfl, ite2 (fun h3 => ?_) (fun h3 => ?_)⟩⟩
            · have X01 := (Ext.of se).trans X1
              have L1 := Lasts.ext d0 X01
              -- spot
              refine ⟨.ref st, rfl, .ref a, rfl, a, xs, rfl, .inr (L1.tk.sq hT), st, c, r, t + 1, _, rfl, D1, by omega, by omega, by omega, fun H2 sp s0 s1 D2 X2 => ?_⟩
              obtain ⟨sn, rfl⟩ : ∃ m : Nat, sp = m := ⟨sp.toNat, by omega⟩
              have hsn : sn < xs.length := by omega
              have X02 := X01.trans X2
              have L2' := Lasts.ext d0 X02
              have hT2 := L2'.tk.sq hT
              refine ⟨.ref a, rfl, .int sn, rfl, sn, rfl, sl_any (K := K) (a := a) (xs := xs) (lo := none) (hi := some (sn : Int)) hT2 (fun H3 b3 s3 hb3 => ?_)⟩
              rw [cut_to] at hb3
              obtain ⟨de, hde, hxe⟩ := DqAll.at ha (List.getElem?_eq_getElem hsn)
              have hmem := List.mem_of_getElem? hde
              obtain ⟨hfe, hdd, _⟩ := hf.at hmem
              obtain ⟨n', rfl⟩ : ∃ n', n = n' + 1 := ⟨n - 1, by omega⟩
              have hwa := wtAll_at hde
              refine ⟨.ref st, rfl, .ref a, rfl, .int sn, rfl, a, xs, _, _, rfl, rfl, (TupK.of s3).sq hT2, atI_nat (List.getElem?_eq_getElem hsn), st, c, r, t + 1 + 1, _, de, M, k - 1, wt de, rfl, D2.same s3, by omega, hxe.lasts (L2'.trans (.of s3)), ⟨hfe.ok, hfe.dp, Nat.le_refl _⟩, hM, by omega, by omega, fun H4 v4 d4 t4 D4 ht4 X4 hv4 hf4 => ?_⟩
              have L24 : Lasts st r H2 H4 := Lasts.ext D2 ((Ext.of s3).trans X4)
              refine ⟨(show (1 : Nat) ≤ sizeLine by decide), fun R nR => ?_⟩
              refine cat_any (xs := xs.take sn) (ys := [v4]) ((TupK.new nR).sq ((X4.tup (D2.same s3)).sq hb3)) (SqT.of upd_same) (by simp; omega) (fun H5 b5 s5 hb5 => ?_)
              have s45 : Same H4 H5 := (sameNew nR).trans s5
              refine ⟨.ref a, rfl, .int sn, rfl, _, _, rfl, rfl, ((sn + 1 : Nat) : Int), by simp, ?_⟩
              dsimp only [tNoPart]
              refine sl_any (K := K) (a := a) (xs := xs) (lo := some ((sn + 1 : Nat) : Int)) (hi := none) (H := H5) ((TupK.of s45).sq (L24.tk.sq hT2)) (fun H6 b6 s6 hb6 => ?_)
              rw [cut_from] at hb6
              refine cat_any ((TupK.of s6).sq hb5) hb6 (by simp; omega) (fun H7 b7 s7 hb7 => ?_)
              have s47 := (s45.trans s6).trans s7
              have L07 : Lasts st r H H7 := (L2'.trans L24).trans (.of s47)
              refine q H7 _ (.tuple (ds.take sn ++ [d4] ++ ds.drop (sn + 1))) t4 (D4.same s47) (by omega) ((X02.trans ((Ext.of s3).trans X4)).trans (Ext.of s47)) (.tup hb7 (DqAll.app (DqAll.app (DqAll.take _ (ha.lasts L07)) (.cons (hv4.lasts (.of s47)) .nil)) (DqAll.drop _ (ha.lasts L07)))) ?_
              refine Fit.tup ?_ (by omega) ?_
              · intro x hx
                rw [List.append_assoc, List.mem_append, List.mem_append, List.mem_singleton] at hx
                rcases hx with h | rfl | h
                · have := hp1 x (List.mem_of_mem_take h)
                  exact ⟨fit_mono (by omega) this.1, by omega⟩
                · exact ⟨hf4.ok, by have := hf4.dp; omega⟩
                · have := hp1 x (List.mem_of_mem_drop h)
                  exact ⟨fit_mono (by omega) this.1, by omega⟩
              · have := hf4.wt
                rw [wtAll_app, wtAll_app]
                simp only [wtAll]
                omega
            · exact rest _ _ ⟨rfl, t + 1, D1, Nat.le_refl _, (Ext.of se).trans X1⟩
          · exact rest _ _ ⟨rfl, t, d0.new ne, by omega, Ext.of (sameNew ne)⟩
        · exact rest _ _ ⟨rfl, t, d0, by omega, Ext.of (Same.refl _)⟩
      case rest =>
        rintro _ H1 ⟨rfl, t1, D1, ht1, X1⟩
        refine ⟨.ref st, rfl, st, c, r, t1, 6, rfl, D1, by omega, by decide, by decide, fun H2 way w0 w1 D2 X2 => ?_⟩
        obtain ⟨wn, rfl⟩ : ∃ m : Nat, way = m := ⟨way.toNat, by omega⟩
        have X02 := X1.trans X2
        have L02 := Lasts.ext d0 X02
        have hd2 := hd.lasts L02
        have odd : ∀ Q' : VK, (∀ v H', Q v H' → Q' v H') → ∃ (st' c' r' : Addr) (t' : Nat), [V.ref st] = [.ref st'] ∧ DS H2 st' c' r' t' ∧ t' < 1000000 ∧ ∀ (H' : Hp) (v : V) (d : PyData), DS H' st' c' r' (t' + 1) → Ext st' r' H2 H' → Dq K st' r' H' v d → Fit (10 ^ 29) 2 100 d → Q' v H' := by
          intro Q' hQ
          exact ⟨st, c, r, t1 + 1, rfl, D2, by omega, fun H3 v3 d3 D3 X3 h3 f3 => hQ _ _ (q _ _ _ _ D3 (by omega) (X02.trans X3) h3 (f3.mono (by omega) (by omega) (by omega)))⟩
        refine ⟨v, rfl, v, .ty "tuple", _, _, _, rfl, .ty _, hd2.ty, kit_tup d, _, rfl, ?_⟩
        cases d with
        | tuple ds =>
          cases hd2 with
          | @tup a xs _ hT ha =>
          have hl := DqAll.len ha
          obtain ⟨hp1, hp2, hp3⟩ := hf.parts
          have hwl := wtAll_len ds
          refine iteT ⟨.int wn, rfl, _, _, rfl, rfl, _, rfl, ite2 (fun h1 => ?_) (fun h1 => ?_)⟩
          · have h4 : wn < 4 := by have := of_decide_eq_true h1; omega
            refine ⟨.ref a, rfl, 1, rfl, ?_⟩
            dsimp only [tNoPart]
            refine sl_any (K := K) (a := a) (xs := xs) (lo := some ((1 : Nat) : Int)) (hi := none) (H := H2) hT (fun H3 b3 s3 hb3 => ?_)
            rw [cut_from] at hb3
            have hT3 := (TupK.of s3).sq hT
            refine ⟨.ref a, rfl, .ref a, rfl, 1, rfl, -1, rfl, ?_⟩
            dsimp only [tNoPart]
            refine sl_any (K := K) (a := a) (xs := xs) (lo := some (-1)) (hi := none) (H := H3) hT3 (fun H4 b4 s4 hb4 => ?_)
            rw [cut_last] at hb4
            refine cat_any ((TupK.of s4).sq hT3) hb4 (by simp; omega) (fun H5 b5 s5 hb5 => ?_)
            have hT5 := (TupK.of (s4.trans s5)).sq hT3
            refine ⟨.ref a, rfl, a, xs, rfl, hT5, fun L nL mL => ⟨.ref a, rfl, a, xs, rfl, (TupK.new nL).sq hT5, fun p np => ⟨(show (4 : Nat) ≤ sizeLine by decide), fun Z nZ => ?_⟩⟩⟩
            have s25 := (s3.trans s4).trans s5
            have D5 := D2.same s25
            obtain ⟨oL1, _, oL2⟩ := D5.off nL
            have sL : Same H5 (upd H5 L (.lst xs)) := sameNew nL
            have sp : Same (upd H5 L (.lst xs)) (upd (upd H5 L (.lst xs)) p (.tup xs.reverse)) := sameNew np
            have sZ : Same (upd (upd H5 L (.lst xs)) p (.tup xs.reverse)) (upd (upd (upd H5 L (.lst xs)) p (.tup xs.reverse)) Z (.lst [.ref b3, .ref b5, .ref L, .ref p])) := sameNew nZ
            have s5Z := (sL.trans sp).trans sZ
            have s2Z := s25.trans s5Z
            have haZ := ha.lasts (Lasts.of (st := st) (r := r) s2Z)
            have hall : DqAll K st r (upd (upd (upd H5 L (.lst xs)) p (.tup xs.reverse)) Z (.lst [.ref b3, .ref b5, .ref L, .ref p])) [.ref b3, .ref b5, .ref L, .ref p] [.tuple (ds.drop 1), .tuple (ds ++ ds.drop (xs.length - 1)), .list ds, .tuple ds.reverse] :=
              .cons (.tup ((TupK.of ((s4.trans s5).trans s5Z)).sq hb3) (haZ.drop 1)) (.cons (.tup ((TupK.of s5Z).sq hb5) (haZ.app (haZ.drop _))) (.cons (.lst ((sp.trans sZ) _ _ upd_same) oL1 oL2 mL haZ) (.cons (.tup ((TupK.of sZ).sq (SqT.of upd_same)) haZ.rev) .nil)))
            have hfit : ∀ x ∈ [PyData.tuple (ds.drop 1), .tuple (ds ++ ds.drop (xs.length - 1)), .list ds, .tuple ds.reverse], Fit (M + 1) (k + 2) (2 * W + 100) x := by
              intro x hx
              have w1 := wtAll_split ds 1
              have w2 := wtAll_split ds (xs.length - 1)
              simp only [List.mem_cons, List.not_mem_nil, or_false] at hx
              rcases hx with rfl | rfl | rfl | rfl
              · exact fit_sub hf (fun e he => List.mem_of_mem_drop he) (by omega)
              · exact fit_sub hf (fun e he => by
                  rcases List.mem_append.mp he with h | h
                  · exact h
                  · exact List.mem_of_mem_drop h) (by rw [wtAll_app]; omega)
              · exact fit_subL hf (fun e he => he) (by omega)
              · exact fit_sub hf (fun e he => List.mem_reverse.mp he) (by rw [wtAll_rev]; omega)
            have hn4 : wn < ([.ref b3, .ref b5, .ref L, .ref p] : List V).length := h4
            obtain ⟨dd, hdd, hdq⟩ := DqAll.at hall (List.getElem?_eq_getElem hn4)
            exact ⟨.int wn, rfl, Z, _, _, _, rfl, rfl, SqL.of upd_same, atI_nat (List.getElem?_eq_getElem hn4), q _ _ _ _ (D2.same s2Z) (by omega) (X02.trans (Ext.of s2Z)) hdq (hfit dd (List.mem_of_getElem? hdd))⟩
          · refine ⟨.ref a, rfl, .ref a, .ty "int", _, _, _, rfl, .ty _, ty_sq hT, kit_int (.tuple ds), _, rfl, iteF ?_⟩
            exact ⟨.ref st, rfl, odd _ fun _ _ h => h⟩
        | int i =>
          cases hd2
          refine iteF ⟨.int i, rfl, .int i, .ty "int", _, _, _, rfl, .ty _, .base (.int i), kit_int (.int i), _, rfl, iteT ?_⟩
          refine ⟨.int i, rfl, .int i, .ty "bool", _, _, _, rfl, .ty _, .base (.int i), kit_bool (.int i), _, rfl, iteT ?_⟩
          refine ⟨.int wn, rfl, _, _, rfl, rfl, _, rfl, ite2 (fun h1 => ?_) (fun h1 => ?_)⟩
          · have h4 : wn < 4 := by have := of_decide_eq_true h1; omega
            refine ⟨.int i, rfl, _, _, rfl, rfl, .int i, rfl, _, _, rfl, rfl, .int i, rfl, rfl, .int i, rfl, _, _, rfl, rfl, (show (4 : Nat) ≤ sizeLine by decide), fun Z nZ => ?_⟩
            have hall : DqAll K st r (upd H2 Z (.lst [.int (i + 1), .int (i - 1), .bl (decide (V.int i = V.int 1)), .int (0 - i)])) [.int (i + 1), .int (i - 1), .bl (decide (V.int i = V.int 1)), .int (0 - i)] [.int (i + 1), .int (i - 1), .bool (decide (V.int i = V.int 1)), .int (0 - i)] :=
              .cons (.int _) (.cons (.int _) (.cons (.bl _) (.cons (.int _) .nil)))
            have hi := hf.ok
            simp only [fit] at hi
            have hfit : ∀ x ∈ [PyData.int (i + 1), .int (i - 1), .bool (decide (V.int i = V.int 1)), .int (0 - i)], Fit (M + 1) (k + 2) (2 * W + 100) x := by
              intro x hx
              simp only [List.mem_cons, List.not_mem_nil, or_false] at hx
              rcases hx with rfl | rfl | rfl | rfl
              · exact Fit.int (by omega) (by omega)
              · exact Fit.int (by omega) (by omega)
              · exact ⟨by simp [fit], by simp [PyData.depth], by simp only [Pv.wt]; omega⟩
              · exact Fit.int (by omega) (by omega)
            have hn4 : wn < ([.int (i + 1), .int (i - 1), .bl (decide (V.int i = V.int 1)), .int (0 - i)] : List V).length := h4
            obtain ⟨dd, hdd, hdq⟩ := DqAll.at hall (List.getElem?_eq_getElem hn4)
            exact ⟨.int wn, rfl, Z, _, _, _, rfl, rfl, SqL.of upd_same, atI_nat (List.getElem?_eq_getElem hn4), q _ _ _ _ (D2.new nZ) (by omega) (X02.trans (Ext.of (sameNew nZ))) hdq (hfit dd (List.mem_of_getElem? hdd))⟩
          · exact ⟨.ref st, rfl, odd _ fun _ _ h => h⟩
        | bool bb =>
          cases hd2
          refine iteF ⟨.bl bb, rfl, .bl bb, .ty "int", _, _, _, rfl, .ty _, .base (.bl bb), kit_int (.bool bb), _, rfl, iteT ?_⟩
          refine ⟨.bl bb, rfl, .bl bb, .ty "bool", _, _, _, rfl, .ty _, .base (.bl bb), kit_bool (.bool bb), _, rfl, iteF ?_⟩
          exact ⟨.ref st, rfl, odd _ fun _ _ h => h⟩
        | none =>
          refine iteF ⟨v, rfl, v, .ty "int", _, _, _, rfl, .ty _, hd2.ty, kit_int .none, _, rfl, iteF ?_⟩
          exact ⟨.ref st, rfl, odd _ fun _ _ h => h⟩
        | str x =>
          refine iteF ⟨v, rfl, v, .ty "int", _, _, _, rfl, .ty _, hd2.ty, kit_int (.str x), _, rfl, iteF ?_⟩
          exact ⟨.ref st, rfl, odd _ fun _ _ h => h⟩
        | list x =>
          refine iteF ⟨v, rfl, v, .ty "int", _, _, _, rfl, .ty _, hd2.ty, kit_int (.list x), _, rfl, iteF ?_⟩
          exact ⟨.ref st, rfl, odd _ fun _ _ h => h⟩
        | dict x =>
          refine iteF ⟨v, rfl, v, .ty "int", _, _, _, rfl, .ty _, hd2.ty, kit_int (.dict x), _, rfl, iteF ?_⟩
          exact ⟨.ref st, rfl, odd _ fun _ _ h => h⟩
end
end Pv

namespace Pv
open PySem PySem.Spec PyProof.Rows L2
abbrev sLaw : Stmt := topS 22
theorem scLaw : FnScope ["_law_script", "_law_state", "_law_turn", "_law_instance_here", "_law_good", "_law_values", "_law_k", "_law_bent_here", "_law_value", "_law_kept", "_law_found"] ["_law_script"] (defScope sLaw) := ⟨rfl, rfl, rfl, by decide +kernel, rfl, by decide +kernel, by decide +kernel⟩
theorem hu70 {k : Nat} {A : Around} (hr : Room k A) : A.units + 70 < cLine := by have := hr.un; omega
theorem InsOk.inR {cs : List Int} {gs : List Gp} (ok : InsOk cs gs) : InR cs.length gs := fun g hg => ⟨by have := (ok.gp g hg).1; omega, (ok.gp g hg).2.1⟩
abbrev BigM : Nat := 10 ^ 29
theorem nat_big {i : Int} (h : -2 ≤ i ∧ i ≤ 10 ^ 12 + 2) : i.natAbs ≤ BigM := by
  have : i.natAbs ≤ 10 ^ 12 + 2 := by omega
  exact Nat.le_trans this (by decide)
theorem fit_rows {lo hi : Int} {rows : List (List Int)} (h : RowsIn lo hi rows) (hlo : -2 ≤ lo) (hhi : hi ≤ 10 ^ 12 + 2) (hl : rows.length ≤ 20) : Fit BigM 2 10000 (dAsg rows) :=
  fit_dAsg (fun row hr => ⟨(h row hr).2.1, fun i hi' => nat_big (by have := (h row hr).2.2 i hi'; omega)⟩) hl
theorem fit_ins {cs : List Int} {gs : List Gp} (ok : InsOk cs gs) : Fit BigM 5 20000 (dInst cs gs) := by
  have h6 := ok.c6
  have h10 := ok.g10
  refine fit_dInst ⟨by omega, fun i hi => nat_big (by have := ok.cb i hi; omega)⟩ (by omega) (fun g hg => ?_)
  have := ok.gp g hg
  refine ⟨by omega, fun i hi => nat_big ?_, nat_big (by omega)⟩
  have := this.2.1 i hi
  omega
theorem rows_good {cs : List Int} {gs : List Gp} {rows : List (List Int)} (ok : InsOk cs gs) (sh : Shp gs rows) (bd : Bd rows) : RowsIn 0 (10 ^ 12) rows ∧ 1 ≤ rows.length ∧ rows.length ≤ 20 := by
  have h1 := ok.g1
  have h10 := ok.g10
  refine ⟨fun row hr => ?_, by rw [sh.1]; exact h1, by rw [sh.1]; omega⟩
  obtain ⟨i, hi, e⟩ := List.mem_iff_getElem.mp hr
  have hi' : i < gs.length := by rw [← sh.1]; exact hi
  have hg := List.getElem?_eq_getElem hi'
  have hl := sh.2 i gs[i] row hg (by rw [List.getElem?_eq_getElem hi, e])
  have := (ok.gp gs[i] (List.getElem_mem hi')).1
  exact ⟨by omega, by omega, bd row hr⟩
theorem rows_first {cs : List Int} {gs : List Gp} (ok : InsOk cs gs) : RowsIn 0 (10 ^ 12) (gs.map firstRow) := by
  intro row hr
  obtain ⟨g, hg, rfl⟩ := List.mem_map.mp hr
  have := ok.gp g hg
  unfold firstRow
  refine ⟨by simp, by simp [zeros]; omega, fun x hx => ?_⟩
  rcases List.mem_cons.mp hx with rfl | hx
  · omega
  · have : x = 0 := List.eq_of_mem_replicate hx
    omega
section
variable {P : Program} {w : World} {K : PySem.W.Frag} {mg : Str → Option Value} {base : Heap}
theorem bent7 {st c r : Addr} {t : Nat} {v : V} {d : PyData} {M k W : Nat} {H : Hp} {Q : VK} (h1 : DS H st c r t) (h2 : t + 70 ≤ 1000000) (h3 : Dq K st r H v d) (h4 : Fit M k W d) (h5 : 10 ^ 29 ≤ M) (h6 : W ≤ 100000) (h7 : d.depth ≤ 4)
    (h8 : ∀ (H' : Hp) (v' : V) (d' : PyData) (t' : Nat), DS H' st c r t' → t' ≤ t + 70 → Ext st r H H' → Dq K st r H' v' d' → Fit (M + 1) (k + 2) (2 * W + 100) d' → Q v' H') : spB K 7 [.ref st, v] H Q E0 :=
  ⟨st, c, r, t, v, d, M, k, W, rfl, h1, h2, h3, h4, h5, h6, Nat.add_le_add_right h7 2, fun H' v' d' t' a b c' d'' e => h8 H' v' d' t' a b c' d'' e⟩
def spLaw (K : PySem.W.Frag) : Sp := fun vs H Q _ => ∃ (a : Addr) (ns : List Int), vs = [.ref a] ∧ SqL K H a (ns.map V.int) ∧ ns.length ≤ 63 ∧ ∀ H', Q (.bl true) H'
set_option maxHeartbeats 8000000 in
theorem ok_law {f fS fI fD fB fF fO fT fX fA fL : Addr} {fd fdS fdI fdD fdB fdF fdO fdT fdX fdA fdL : FuncData} (F : Fun K "law" "law" sLaw f fd)
    (FS : Fun K "_law_start" "_law_start" sStart fS fdS) (bS : Binds K fdS ["_law_script"] []) (gS : mg "_law_start" = some (.ref fS)) (GS : FnOk P w K mg base CX0 1 fS fdS ["_law_script"] (spStart K))
    (FI : Fun K "_law_instance" "_law_instance" sInst fI fdI) (bI : Binds K fdI ["_law_state", "_law_posts", "_law_groups", "_law_most"] []) (gI : mg "_law_instance" = some (.ref fI)) (GI : FnOk P w K mg base CX0 2 fI fdI ["_law_state", "_law_posts", "_law_groups", "_law_most"] (spInst K))
    (FD : Fun K "_law_draw" "_law_draw" sDraw fD fdD) (bD : Binds K fdD ["_law_state", "_law_below"] []) (gD : mg "_law_draw" = some (.ref fD)) (GD : FnOk P w K mg base CX0 1 fD fdD ["_law_state", "_law_below"] spDraw)
    (FB : Fun K "_law_assignment" "_law_assignment" sAsg fB fdB) (bB : Binds K fdB ["_law_state", "_law_instance_here"] []) (gB : mg "_law_assignment" = some (.ref fB)) (GB : FnOk P w K mg base CX0 3 fB fdB ["_law_state", "_law_instance_here"] (spAsg K))
    (FF : Fun K "_law_first" "_law_first" sFirst fF fdF) (bF : Binds K fdF ["_law_instance_here"] []) (gF : mg "_law_first" = some (.ref fF)) (GF : FnOk P w K mg base CX0 1 fF fdF ["_law_instance_here"] (spFirst K))
    (FO : Fun K "_law_odd" "_law_odd" sOdd fO fdO) (bO : Binds K fdO ["_law_state"] []) (gO : mg "_law_odd" = some (.ref fO)) (GO : FnOk P w K mg base CX0 2 fO fdO ["_law_state"] (spOdd K))
    (FT : Fun K "_law_bent" "_law_bent" sBent fT fdT) (bT : Binds K fdT ["_law_state", "_law_value"] []) (gT : mg "_law_bent" = some (.ref fT)) (GT : FnOk P w K mg base CX0 7 fT fdT ["_law_state", "_law_value"] (spB K 7))
    (FX : Fun K "_law_crossed" "_law_crossed" sCross fX fdX) (bX : Binds K fdX ["_law_state", "_law_instance_here", "_law_assignment_here"] []) (gX : mg "_law_crossed" = some (.ref fX)) (GX : FnOk P w K mg base CX0 2 fX fdX ["_law_state", "_law_instance_here", "_law_assignment_here"] (spCross K))
    (FA : Fun K "is_assignment" "is_assignment" sIA fA fdA) (bA : Binds K fdA ["instance", "value"] []) (gA : mg "is_assignment" = some (.ref fA)) (GA : FnOk P w K mg base CX0 4 fA fdA ["instance", "value"] (spIsA K))
    (FL : Fun K "_law_is_assignment" "_law_is_assignment" sLIsA fL fdL) (bL : Binds K fdL ["_law_instance_here", "_law_value"] []) (gL : mg "_law_is_assignment" = some (.ref fL)) (GL : FnOk P w K mg base CX0 3 fL fdL ["_law_instance_here", "_law_value"] (spLIsA K))
    (mr : mg "range" = none) (mli : mg "list" = none) (mrp : mg "repr" = none) (mi : mg "isinstance" = none) (mb : mg "bool" = none) : FnG P w K mg base 8 f fd ["_law_script"] (spLaw K) := by
  refine okG F scLaw (fun vs H Q E h => ?_) (fun cdv A outer s H vs Q E hgd hr h => ?_)
  · obtain ⟨a, ns, rfl, _⟩ := h; rfl
  · obtain ⟨a, ns, rfl, hS, hn, q⟩ := h
    refine ⟨_, pss_cons (ps_set (i := 1) scLaw.nd rfl (.inl rfl) (pe_call GS (hr.mono (by decide)) (by rfl) gS FS.kp bS .nil pass0 (pa_cons (pv 0) pa_nil)))
      (pss_cons (ps_for PassesOwn.never rfl (pi_range1 (by rfl) mr (pa_cons pe_int pa_nil)) (pg_name (i := 2) scLaw.nd rfl (.inl rfl))
        (pss_cons (ps_set (i := 3) scLaw.nd rfl (.inl rfl) (pe_call GI (hr.mono (by decide)) (by rfl) gI FI.kp bI .nil pass0 (pa_cons (pv 1) (pa_cons pe_int (pa_cons pe_int (pa_cons
            (pe_ix ix_list (pe_lst (pa_cons pe_int (pa_cons pe_int (pa_cons (pe_op op_pow pe_int pe_int) pa_nil)))) (pe_call GD (hr.mono (by decide)) (by rfl) gD FD.kp bD .nil pass0 (pa_cons (pv 1) (pa_cons pe_int pa_nil))) (fun _ _ => rfl)) pa_nil))))))
        (pss_cons (ps_set (i := 4) scLaw.nd rfl (.inl rfl) (pe_call GB (hr.mono (by decide)) (by rfl) gB FB.kp bB .nil pass0 (pa_cons (pv 1) (pa_cons (pv 3) pa_nil))))
        (pss_cons (ps_set (i := 5) scLaw.nd rfl (.inl rfl) (pe_lst (pa_cons (pv 4) (pa_cons (pe_call GF (hr.mono (by decide)) (by rfl) gF FF.kp bF .nil pass0 (pa_cons (pv 3) pa_nil))
            (pa_cons (pe_call GO (hr.mono (by decide)) (by rfl) gO FO.kp bO .nil pass0 (pa_cons (pv 1) pa_nil)) (pa_cons (pe_revT (pv 4)) (pa_cons (pe_callTy call_listS (by rfl) mli (by decide +kernel) (pa_cons (pv 4) pa_nil)) (pa_cons (pe_tup pa_nil) pa_nil))))))))
        (pss_cons (ps_for PassesOwn.never rfl (pi_range1 (by rfl) mr (pa_cons pe_int pa_nil)) (pg_name (i := 6) scLaw.nd rfl (.inl rfl))
          (pss_cons (ps_set (i := 7) scLaw.nd rfl (.inl rfl) (pe_call GT hr (by rfl) gT FT.kp bT .nil pass0 (pa_cons (pv 1) (pa_cons (pv 4) pa_nil))))
          (pss_one (ps_set (i := 5) scLaw.nd rfl (.inl rfl) (pe_op op_cat (pv 5) (pe_lst (pa_cons (pv 7) (pa_cons (pe_call GT hr (by rfl) gT FT.kp bT .nil pass0 (pa_cons (pv 1) (pa_cons (pv 7) pa_nil)))
            (pa_cons (pe_call GX (hr.mono (by decide)) (by rfl) gX FX.kp bX .nil pass0 (pa_cons (pv 1) (pa_cons (pv 3) (pa_cons (pv 4) pa_nil)))) pa_nil)))))))))
        (pss_one (ps_for PassesOwn.never rfl (pi_list (pv 5)) (pg_name (i := 8) scLaw.nd rfl (.inl rfl))
          (pss_cons (ps_set (i := 9) scLaw.nd rfl (.inl rfl) (pe_callB (call_reprQ hgd (hu70 hr)) (by rfl) mrp (by decide +kernel) (pa_cons (pe_lstS (pa_cons (pv 3) (pa_cons (pv 8) pa_nil))) pa_nil)))
          (pss_cons (ps_set (i := 10) scLaw.nd rfl (.inl rfl) (pe_call GA (hr.mono (by decide)) (by rfl) gA FA.kp bA .nil pass0 (pa_cons (pv 3) (pa_cons (pv 8) pa_nil))))
          (pss_cons (ps_if (PW.pt (pw_or (pt_not (pt_val (pe_callB call_isi (by rfl) mi (by decide +kernel) (pa_cons (pv 10) (pa_cons (pe_bltn (v := .ty "bool") (by rfl) mb (by decide +kernel) rfl) pa_nil)))))
            (pw_or1 (pt_cmpR op_ne (pv 10) (pe_call GL (hr.mono (by decide)) (by rfl) gL FL.kp bL .nil pass0 (pa_cons (pv 3) (pa_cons (pv 8) pa_nil))) (nomark _))))) (pss_one (ps_ret pe_bl)) pss_nil)
          (pss_one (ps_if (pt_cmpR op_ne (pe_callB (call_reprQ hgd (hu70 hr)) (by rfl) mrp (by decide +kernel) (pa_cons (pe_lstS (pa_cons (pv 3) (pa_cons (pv 8) pa_nil))) pa_nil)) (pv 9) (nomark _)) (pss_one (ps_ret pe_bl)) pss_nil))))))))))))
      (pss_one (ps_ret pe_bl))), ?_⟩
    refine ⟨.ref a, rfl, a, ns, rfl, hS, hn, fun H1 st c r s1 D1 => ?_⟩
    refine ⟨5, rfl, by decide, by decide, for_it (walk_range (lo := 0) (n := (5 : Int).toNat))
      (fun i σ H2 => ∃ (y2 y3 y4 y5 y6 y7 y8 y9 y10 : Option V) (t2 : Nat), σ = [some (.ref a), some (.ref st), y2, y3, y4, y5, y6, y7, y8, y9, y10] ∧ DS H2 st c r t2 ∧ t2 ≤ 2000 * i)
      ⟨none, none, none, none, none, none, none, none, none, 0, rfl, D1, by omega⟩ (fun _ _ _ _ _ => trivial) ?_ (fun σ H2 _ => q _)⟩
    rintro i v σ H2 H2' hlt ⟨y2, y3, y4, y5, y6, y7, y8, y9, y10, t2, rfl, d2, ht2⟩ ⟨rfl, rfl⟩
    have hi5 : i < 5 := hlt
    -- the instance
    refine ⟨.ref st, rfl, _, _, rfl, rfl, ⟨by decide, by decide, by decide⟩, (show (3 : Nat) ≤ sizeLine by decide), fun L nL => ⟨.ref st, rfl, st, c, r, t2, _, rfl, d2.new nL, by omega, by decide, by decide, fun H3 d h0 h1 D3 X3 => ?_⟩⟩
    have oL := d2.off nL
    have eL := X3 L _ upd_same oL.1 oL.2.2
    obtain ⟨m, hm, hm1, hm2⟩ : ∃ m : Int, atI [V.int 3, V.int 20, V.int ((10 : Int) ^ (12 : Int).toNat)] d = some (.int m) ∧ 1 ≤ m ∧ m ≤ 10 ^ 12 := by
      obtain h | h | h : d = 0 ∨ d = 1 ∨ d = 2 := by omega
      · exact ⟨3, by rw [h]; rfl, by decide, by decide⟩
      · exact ⟨20, by rw [h]; rfl, by decide, by decide⟩
      · exact ⟨10 ^ 12, by rw [h]; rfl, by decide, by decide⟩
    refine ⟨L, _, _, _, rfl, rfl, SqL.of eL, hm, st, c, r, t2 + 1, m, rfl, D3, by omega, hm1, hm2, fun H4 I t4 cs gs D4 ht4 X4 hI ok => ?_⟩
    have h6 := ok.c6
    have h10 := ok.g10
    have fI := fit_ins ok
    -- the good one
    refine ⟨.ref st, rfl, .ref I, rfl, st, c, r, I, t4, cs, gs, rfl, D4, by omega, hI, ok, fun H5 g t5 rows D5 ht5 X5 hG sh bd => ?_⟩
    obtain ⟨hrows, hr1, hr20⟩ := rows_good ok sh bd
    have fG := fit_rows hrows (by decide) (by decide) hr20
    have tk45 := X5.tup D4
    have hI5 := tk45.dp _ _ (to_dInst _ _) hI
    -- the six values
    refine ⟨.ref g, rfl, .ref I, rfl, I, cs, gs, rfl, hI5, by omega, fun g' hg' => by have := (ok.gp g' hg').1; omega, fun H6 p6 s6 hF => ?_⟩
    refine ⟨.ref st, rfl, st, c, r, t5, rfl, D5.same s6, by omega, fun H7 v7 d7 D7 X7 hv7 fv7 => ?_⟩
    have X57 : Ext st r H5 H7 := (Ext.of s6).trans X7
    have L57 := Lasts.ext D5 X57
    have L67 := Lasts.ext (D5.same s6) X7
    have hG7 := L57.tk.dp _ _ (to_dAsg _) hG
    obtain ⟨_, ys, e, hgq, hys⟩ := asg_open hG7
    cases e
    refine ⟨.ref g, rfl, g, ys, rfl, hgq, fun p8 n8 => ?_⟩
    have s8 : Same H7 (upd H7 p8 (.tup ys.reverse)) := sameNew n8
    refine ⟨.ref g, rfl, g, ys, rfl, (TupK.of s8).sq hgq, fun L9 n9 m9 => ⟨Nat.zero_le _, fun p10 n10 => ⟨(show (6 : Nat) ≤ sizeLine by decide), fun V0 nV => ?_⟩⟩⟩
    have D8 := D7.same s8
    obtain ⟨o9a, _, o9b⟩ := D8.off n9
    have hysq : DqAll K st r H7 ys (rows.map dI) := DqAll.of_dp (to_rows _) hys
    have h8q : Dq K st r (upd H7 p8 (.tup ys.reverse)) (.ref p8) (.tuple (rows.map dI).reverse) := .tup (SqT.of upd_same) (hysq.lasts (.of s8)).rev
    generalize e8 : upd H7 p8 (.tup ys.reverse) = H8 at *
    have s9 : Same H8 (upd H8 L9 (.lst ys)) := sameNew n9
    have h9q : Dq K st r (upd H8 L9 (.lst ys)) (.ref L9) (.list (rows.map dI)) := .lst upd_same o9a o9b m9 (hysq.lasts (.of (s8.trans s9)))
    generalize e9 : upd H8 L9 (.lst ys) = H9 at *
    have s10 : Same H9 (upd H9 p10 (.tup [])) := sameNew n10
    have h10q : Dq K st r (upd H9 p10 (.tup [])) (.ref p10) (.tuple []) := .tup (SqT.of upd_same) .nil
    generalize e10 : upd H9 p10 (.tup []) = H10 at *
    have sV := sameNew (o := .lst [.ref g, .ref p6, v7, .ref p8, .ref L9, .ref p10]) nV
    have s7V := ((s8.trans s9).trans s10).trans sV
    have DV := D7.same s7V
    obtain ⟨oV1, _, oV2⟩ := (D7.same ((s8.trans s9).trans s10)).off nV
    have fP := fG.parts
    have hall0 : DqAll K st r (upd H10 V0 (.lst [.ref g, .ref p6, v7, .ref p8, .ref L9, .ref p10])) [.ref g, .ref p6, v7, .ref p8, .ref L9, .ref p10] [dAsg rows, dAsg (gs.map firstRow), d7, .tuple (rows.map dI).reverse, .list (rows.map dI), .tuple []] :=
      .cons ((Dq.of_dp (to_dAsg _) hG7).lasts (.of s7V)) (.cons (((Dq.of_dp (to_dAsg _) hF).lasts L67).lasts (.of s7V)) (.cons (hv7.lasts (.of s7V)) (.cons (h8q.lasts (.of ((s9.trans s10).trans sV))) (.cons (h9q.lasts (.of (s10.trans sV))) (.cons (h10q.lasts (.of sV)) .nil)))))
    have hfit0 : ∀ x ∈ [dAsg rows, dAsg (gs.map firstRow), d7, .tuple (rows.map dI).reverse, .list (rows.map dI), .tuple []], Fit (BigM + 2) 6 50000 x := by
      intro x hx
      simp only [List.mem_cons, List.not_mem_nil, or_false] at hx
      rcases hx with rfl | rfl | rfl | rfl | rfl | rfl
      · exact fG.mono (by omega) (by omega) (by omega)
      · exact (fit_rows (rows_first ok) (by decide) (by decide) (by rw [List.length_map]; omega)).mono (by omega) (by omega) (by omega)
      · exact fv7.mono (Nat.le_add_right _ _) (by omega) (by omega)
      · exact (fit_sub fG (W' := 10000) (fun e he => List.mem_reverse.mp he) (by rw [wtAll_rev]; exact fP.2.2)).mono (by omega) (by omega) (by omega)
      · exact (fit_subL fG (W' := 10000) (fun e he => he) fP.2.2).mono (by omega) (by omega) (by omega)
      · exact Fit.tup (fun d hd => by cases hd) (by omega) (by simp [wtAll])
    have LG : Lasts st r H5 (upd H10 V0 (.lst [.ref g, .ref p6, v7, .ref p8, .ref L9, .ref p10])) := L57.trans (.of s7V)
    generalize eV : upd H10 V0 (.lst [.ref g, .ref p6, v7, .ref p8, .ref L9, .ref p10]) = HV at *
    have hV0 : HV V0 = some (.lst [.ref g, .ref p6, v7, .ref p8, .ref L9, .ref p10]) := by rw [← eV]; exact upd_same
    -- the bent ones
    refine ⟨6, rfl, by decide, by decide, for_it (walk_range (lo := 0) (n := (6 : Int).toNat))
      (fun j σ Hx => ∃ (y6 y7 : Option V) (tx : Nat) (Lx : Addr) (vs : List V) (ds : List PyData), σ = [some (.ref a), some (.ref st), some (.int (0 + (i : Nat))), some (.ref I), some (.ref g), some (.ref Lx), y6, y7, y8, y9, y10] ∧ DS Hx st c r tx ∧ tx ≤ t5 + 1 + 200 * j ∧
        Lasts st r H5 Hx ∧ Hx Lx = some (.lst vs) ∧ Lx ≠ st ∧ Lx ≠ r ∧ vs.length ≤ 6 + 3 * j ∧ DqAll K st r Hx vs ds ∧ ∀ x ∈ ds, Fit (BigM + 2) 6 50000 x)
      ⟨_, _, _, V0, _, _, rfl, DV, by omega, LG, hV0, oV1, oV2, Nat.le_refl _, hall0, hfit0⟩ (fun _ _ _ _ _ => trivial) ?_ ?_⟩
    · rintro j v σ Hx Hx' hltj ⟨z6, z7, tx, Lx, vs, ds, rfl, Dx, htx, Lst, eLx, oL1, oL2, hvl, hall, hfit⟩ ⟨rfl, rfl⟩
      have hj6 : j < 6 := hltj
      have hGx := Lst.tk.dp _ _ (to_dAsg _) hG
      refine ⟨.ref st, rfl, .ref g, rfl, bent7 Dx (by omega) (Dq.of_dp (to_dAsg _) hGx) fG (Nat.le_refl _) (by omega) (by have := fG.dp; omega) (fun Ha va da ta Da hta Xa hva fva => ?_)⟩
      have La := Lasts.ext Dx Xa
      have eLa := La.ls _ _ eLx oL1 oL2
      refine ⟨.ref Lx, rfl, va, rfl, .ref st, rfl, va, rfl, bent7 Da (by omega) hva fva (Nat.le_add_right _ _) (by omega) (by have := fva.dp; omega) (fun Hb vb db tb Db htb Xb hvb fvb => ?_)⟩
      have Lb := Lasts.ext Da Xb
      have Lxb := La.trans Lb
      refine ⟨.ref st, rfl, .ref I, rfl, .ref g, rfl, st, c, r, I, g, tb, rows, rfl, Db, by omega, Lxb.tk.dp _ _ (to_dAsg _) hGx, hr1, hr20, hrows, fun Hc pc tc rc Dc htc Xc hc hrc20 hrc => ?_⟩
      have Lc := Lasts.ext Db Xc
      refine ⟨(show (3 : Nat) ≤ sizeLine by decide), fun M nM => ?_⟩
      have sM := sameNew (o := .lst [va, vb, .ref pc]) nM
      have eLm := sM _ _ ((Lb.trans Lc).ls _ _ eLa oL1 oL2)
      refine ⟨Lx, M, vs, _, rfl, rfl, eLm, upd_same, ?_, fun N nN => ?_⟩
      · have := small (n := 100) (by decide)
        simp; omega
      have sN := sameNew (o := .lst (vs ++ [va, vb, .ref pc])) nN
      have scN := sM.trans sN
      have DN := Dc.same scN
      obtain ⟨oN1, _, oN2⟩ := (Dc.same sM).off nN
      have Lall := ((Lxb.trans Lc).trans (.of scN) : Lasts st r Hx' _)
      refine ⟨_, _, tc, N, vs ++ [va, vb, .ref pc], ds ++ [da, db, dAsg rc], rfl, DN, by omega, Lst.trans Lall, upd_same, oN1, oN2, by simp; omega, (hall.lasts Lall).app (.cons (hva.lasts ((Lb.trans Lc).trans (.of scN))) (.cons (hvb.lasts (Lc.trans (.of scN))) (.cons ((Dq.of_dp (to_dAsg _) hc).lasts (.of scN)) .nil))), ?_⟩
      intro x hx
      rcases List.mem_append.mp hx with h | h
      · exact hfit x h
      · simp only [List.mem_cons, List.not_mem_nil, or_false] at h
        rcases h with rfl | rfl | rfl
        · exact fva.mono (by omega) (by omega) (by omega)
        · exact fvb.mono (by omega) (by omega) (by omega)
        · exact (fit_rows hrc (by decide) (by decide) hrc20).mono (by omega) (by omega) (by omega)
    · -- the check
      rintro σ Hx ⟨z6, z7, tx, Lx, vs, ds, rfl, Dx, htx, Lst, eLx, oL1, oL2, hvl, hall, hfit⟩
      have hIx := Lst.tk.dp _ _ (to_dInst _ _) hI5
      refine ⟨.ref Lx, rfl, Lx, rfl, ⟨_, SqL.of eLx⟩, for_it (walk_list (K := K) (a := Lx) (xs := vs))
        (fun j σ Hy => ∃ (w8 w9 w10 : Option V), σ = [some (.ref a), some (.ref st), some (.int (0 + (i : Nat))), some (.ref I), some (.ref g), some (.ref Lx), z6, z7, w8, w9, w10] ∧ Same Hx Hy)
        ⟨_, _, _, rfl, Same.refl _⟩ (fun j σ Hy _ h => by obtain ⟨_, _, _, _, sy⟩ := h; exact SqL.of (sy _ _ eLx)) ?_ ?_⟩
      · rintro j v σ Hy Hy' hltj ⟨w8, w9, w10, rfl, sy⟩ ⟨rfl, hv⟩
        have hv' : vs[j]? = some v := hv
        obtain ⟨dv, hdv, hvq⟩ := DqAll.at hall hv'
        have fv := hfit dv (List.mem_of_getElem? hdv)
        have fI' : Fit (BigM + 2) 6 50000 (dInst cs gs) := fI.mono (by omega) (by omega) (by omega)
        obtain ⟨sh1, sh2, sh3⟩ := fit_pair (by decide) fI' fv (by omega) (by omega)
        have hgl9 : ∀ g' ∈ gs, g'.1.length ≤ 900 := fun g' hg' => by have := (ok.gp g' hg').1; omega
        -- kept
        refine ⟨.ref I, rfl, v, rfl, (show (2 : Nat) ≤ sizeLine by decide), fun R1 nR1 mR1 => ?_⟩
        have sR1 := sameNew (o := .lst [.ref I, v]) nR1
        have syR := sy.trans sR1
        obtain ⟨oR1, _, oR2⟩ := (Dx.same sy).off nR1
        refine ⟨R1, .list [dInst cs gs, dv], st, r, rfl, .lst upd_same oR1 oR2 mR1 (.cons ((Dq.of_dp (to_dInst _ _) hIx).lasts (.of syR)) (.cons (hvq.lasts (.of syR)) .nil)), sh1, sh2, sh3, ?_⟩
        -- found
        refine ⟨.ref I, rfl, v, rfl, st, r, I, v, cs, gs, dv, rfl, (TupK.of syR).dp _ _ (to_dInst _ _) hIx, hvq.lasts (.of syR), by omega, by omega, ok.inR, hgl9, fun H11 s11 => ?_⟩
        have sy11 := syR.trans s11
        refine ⟨.bl _, rfl, .bl _, .ty "bool", _, _, true, rfl, .ty _, .base (.bl _), kit_ty (by decide +kernel), _, rfl, iteF ?_⟩
        refine ⟨.bl _, rfl, .ref I, rfl, v, rfl, st, r, I, v, cs, gs, dv, rfl, (TupK.of sy11).dp _ _ (to_dInst _ _) hIx, hvq.lasts (.of sy11), by omega, by omega, ok.inR, hgl9, fun H12 s12 => ⟨rfl, _, rfl, iteNS rfl ?_⟩⟩
        have sy12 := sy11.trans s12
        -- again
        refine ⟨.ref I, rfl, v, rfl, (show (2 : Nat) ≤ sizeLine by decide), fun R2 nR2 mR2 => ?_⟩
        have sR2 := sameNew (o := .lst [.ref I, v]) nR2
        have syR2 := sy12.trans sR2
        obtain ⟨oR3, _, oR4⟩ := (Dx.same sy12).off nR2
        refine ⟨R2, .list [dInst cs gs, dv], st, r, rfl, .lst upd_same oR3 oR4 mR2 (.cons ((Dq.of_dp (to_dInst _ _) hIx).lasts (.of syR2)) (.cons (hvq.lasts (.of syR2)) .nil)), sh1, sh2, sh3, _, rfl, rfl, _, rfl, iteNS rfl ?_⟩
        exact ⟨_, _, _, rfl, syR2⟩
      · rintro σ Hy ⟨w8, w9, w10, rfl, sy⟩
        have : (6 : Int).toNat = 6 := rfl
        exact ⟨_, _, _, _, _, _, _, _, _, tx, rfl, Dx.same sy, by omega⟩
end
end Pv

namespace Pv
open PySem PySem.Spec PyProof.Rows L2
/-! what the top has left -/
theorem all_mk {l : PySem.W.OpenLaw} {w : World} {K : PySem.W.Frag} {h : Heap} {mg : Str → Option Value} {fa fWh fWi fTo fSp fIA fLo fSt fDr fIn fFa fAs fOd fBe fNa fFo fLL fLI fCr fFi fLa : Addr} (X : K.In h) (G : h.Ns mainGlobals mg) (hfa : mg "law" = some (.ref fa))
    {odWh anWh odWi anWi odTo anTo odSp anSp odIA anIA odLo anLo odSt anSt odDr anDr odIn anIn odFa anFa odAs anAs odOd anOd odBe anBe odNa anNa odFo anFo odLL anLL odLI anLI odCr anCr odFi anFi odLa anLa : Option Addr} {slWh slWi slTo slSp slIA slLo slSt slDr slIn slFa slAs slOd slBe slNa slFo slLL slLI slCr slFi slLa : Array (Option Value)}
    {ocWh kVWh dcWh pmWh cdWh ctWh ocWi kVWi dcWi pmWi cdWi ctWi ocTo kVTo dcTo pmTo cdTo ctTo ocSp kVSp dcSp pmSp cdSp ctSp ocIA kVIA dcIA pmIA cdIA ctIA ocLo kVLo dcLo pmLo cdLo ctLo ocSt kVSt dcSt pmSt cdSt ctSt ocDr kVDr dcDr pmDr cdDr ctDr ocIn kVIn dcIn pmIn cdIn ctIn ocFa kVFa dcFa pmFa cdFa ctFa ocAs kVAs dcAs pmAs cdAs ctAs ocOd kVOd dcOd pmOd cdOd ctOd ocBe kVBe dcBe pmBe cdBe ctBe ocNa kVNa dcNa pmNa cdNa ctNa ocFo kVFo dcFo pmFo cdFo ctFo ocLL kVLL dcLL pmLL cdLL ctLL ocLI kVLI dcLI pmLI cdLI ctLI ocCr kVCr dcCr pmCr cdCr ctCr ocFi kVFi dcFi pmFi cdFi ctFi ocLa kVLa dcLa pmLa cdLa ctLa : Value}
    (aWh : PySem.W.nsIn K mainGlobals "is_whole" = some (some (.ref fWh))) (lWh : K.lookup fWh = some ⟨ocWh, odWh, .func (PySem.W.fnOf "is_whole" "is_whole" (defArgs sWhole) (defBody sWhole) (defScope sWhole) .none kVWh dcWh pmWh anWh cdWh ctWh), slWh⟩)
      (cWh : PySem.W.codeIn K cdWh "is_whole" = true) (kWh : PySem.W.keepIn K (.ref fWh) = true)
    (aWi : PySem.W.nsIn K mainGlobals "is_within" = some (some (.ref fWi))) (lWi : K.lookup fWi = some ⟨ocWi, odWi, .func (PySem.W.fnOf "is_within" "is_within" (defArgs sWithin) (defBody sWithin) (defScope sWithin) .none kVWi dcWi pmWi anWi cdWi ctWi), slWi⟩)
      (cWi : PySem.W.codeIn K cdWi "is_within" = true) (kWi : PySem.W.keepIn K (.ref fWi) = true)
    (aTo : PySem.W.nsIn K mainGlobals "is_tuple_of" = some (some (.ref fTo))) (lTo : K.lookup fTo = some ⟨ocTo, odTo, .func (PySem.W.fnOf "is_tuple_of" "is_tuple_of" (defArgs sTupOf) (defBody sTupOf) (defScope sTupOf) .none kVTo dcTo pmTo anTo cdTo ctTo), slTo⟩)
      (cTo : PySem.W.codeIn K cdTo "is_tuple_of" = true) (kTo : PySem.W.keepIn K (.ref fTo) = true)
    (aSp : PySem.W.nsIn K mainGlobals "is_split" = some (some (.ref fSp))) (lSp : K.lookup fSp = some ⟨ocSp, odSp, .func (PySem.W.fnOf "is_split" "is_split" (defArgs sSp) (defBody sSp) (defScope sSp) .none kVSp dcSp pmSp anSp cdSp ctSp), slSp⟩)
      (cSp : PySem.W.codeIn K cdSp "is_split" = true) (kSp : PySem.W.keepIn K (.ref fSp) = true)
    (aIA : PySem.W.nsIn K mainGlobals "is_assignment" = some (some (.ref fIA))) (lIA : K.lookup fIA = some ⟨ocIA, odIA, .func (PySem.W.fnOf "is_assignment" "is_assignment" (defArgs sIA) (defBody sIA) (defScope sIA) .none kVIA dcIA pmIA anIA cdIA ctIA), slIA⟩)
      (cIA : PySem.W.codeIn K cdIA "is_assignment" = true) (kIA : PySem.W.keepIn K (.ref fIA) = true)
    (aLo : PySem.W.nsIn K mainGlobals "post_loads" = some (some (.ref fLo))) (lLo : K.lookup fLo = some ⟨ocLo, odLo, .func (PySem.W.fnOf "post_loads" "post_loads" (defArgs sLoads) (defBody sLoads) (defScope sLoads) .none kVLo dcLo pmLo anLo cdLo ctLo), slLo⟩)
      (cLo : PySem.W.codeIn K cdLo "post_loads" = true) (kLo : PySem.W.keepIn K (.ref fLo) = true)
    (aSt : PySem.W.nsIn K mainGlobals "_law_start" = some (some (.ref fSt))) (lSt : K.lookup fSt = some ⟨ocSt, odSt, .func (PySem.W.fnOf "_law_start" "_law_start" (defArgs sStart) (defBody sStart) (defScope sStart) .none kVSt dcSt pmSt anSt cdSt ctSt), slSt⟩)
      (cSt : PySem.W.codeIn K cdSt "_law_start" = true) (kSt : PySem.W.keepIn K (.ref fSt) = true)
    (aDr : PySem.W.nsIn K mainGlobals "_law_draw" = some (some (.ref fDr))) (lDr : K.lookup fDr = some ⟨ocDr, odDr, .func (PySem.W.fnOf "_law_draw" "_law_draw" (defArgs sDraw) (defBody sDraw) (defScope sDraw) .none kVDr dcDr pmDr anDr cdDr ctDr), slDr⟩)
      (cDr : PySem.W.codeIn K cdDr "_law_draw" = true) (kDr : PySem.W.keepIn K (.ref fDr) = true)
    (aIn : PySem.W.nsIn K mainGlobals "_law_instance" = some (some (.ref fIn))) (lIn : K.lookup fIn = some ⟨ocIn, odIn, .func (PySem.W.fnOf "_law_instance" "_law_instance" (defArgs sInst) (defBody sInst) (defScope sInst) .none kVIn dcIn pmIn anIn cdIn ctIn), slIn⟩)
      (cIn : PySem.W.codeIn K cdIn "_law_instance" = true) (kIn : PySem.W.keepIn K (.ref fIn) = true)
    (aFa : PySem.W.nsIn K mainGlobals "_law_far_amount" = some (some (.ref fFa))) (lFa : K.lookup fFa = some ⟨ocFa, odFa, .func (PySem.W.fnOf "_law_far_amount" "_law_far_amount" (defArgs sFar) (defBody sFar) (defScope sFar) .none kVFa dcFa pmFa anFa cdFa ctFa), slFa⟩)
      (cFa : PySem.W.codeIn K cdFa "_law_far_amount" = true) (kFa : PySem.W.keepIn K (.ref fFa) = true)
    (aAs : PySem.W.nsIn K mainGlobals "_law_assignment" = some (some (.ref fAs))) (lAs : K.lookup fAs = some ⟨ocAs, odAs, .func (PySem.W.fnOf "_law_assignment" "_law_assignment" (defArgs sAsg) (defBody sAsg) (defScope sAsg) .none kVAs dcAs pmAs anAs cdAs ctAs), slAs⟩)
      (cAs : PySem.W.codeIn K cdAs "_law_assignment" = true) (kAs : PySem.W.keepIn K (.ref fAs) = true)
    (aOd : PySem.W.nsIn K mainGlobals "_law_odd" = some (some (.ref fOd))) (lOd : K.lookup fOd = some ⟨ocOd, odOd, .func (PySem.W.fnOf "_law_odd" "_law_odd" (defArgs sOdd) (defBody sOdd) (defScope sOdd) .none kVOd dcOd pmOd anOd cdOd ctOd), slOd⟩)
      (cOd : PySem.W.codeIn K cdOd "_law_odd" = true) (kOd : PySem.W.keepIn K (.ref fOd) = true)
    (aBe : PySem.W.nsIn K mainGlobals "_law_bent" = some (some (.ref fBe))) (lBe : K.lookup fBe = some ⟨ocBe, odBe, .func (PySem.W.fnOf "_law_bent" "_law_bent" (defArgs sBent) (defBody sBent) (defScope sBent) .none kVBe dcBe pmBe anBe cdBe ctBe), slBe⟩)
      (cBe : PySem.W.codeIn K cdBe "_law_bent" = true) (kBe : PySem.W.keepIn K (.ref fBe) = true)
    (aNa : PySem.W.nsIn K mainGlobals "_law_natural" = some (some (.ref fNa))) (lNa : K.lookup fNa = some ⟨ocNa, odNa, .func (PySem.W.fnOf "_law_natural" "_law_natural" (defArgs sNat) (defBody sNat) (defScope sNat) .none kVNa dcNa pmNa anNa cdNa ctNa), slNa⟩)
      (cNa : PySem.W.codeIn K cdNa "_law_natural" = true) (kNa : PySem.W.keepIn K (.ref fNa) = true)
    (aFo : PySem.W.nsIn K mainGlobals "_law_row_formed" = some (some (.ref fFo))) (lFo : K.lookup fFo = some ⟨ocFo, odFo, .func (PySem.W.fnOf "_law_row_formed" "_law_row_formed" (defArgs sForm) (defBody sForm) (defScope sForm) .none kVFo dcFo pmFo anFo cdFo ctFo), slFo⟩)
      (cFo : PySem.W.codeIn K cdFo "_law_row_formed" = true) (kFo : PySem.W.keepIn K (.ref fFo) = true)
    (aLL : PySem.W.nsIn K mainGlobals "_law_loads" = some (some (.ref fLL))) (lLL : K.lookup fLL = some ⟨ocLL, odLL, .func (PySem.W.fnOf "_law_loads" "_law_loads" (defArgs sLLoads) (defBody sLLoads) (defScope sLLoads) .none kVLL dcLL pmLL anLL cdLL ctLL), slLL⟩)
      (cLL : PySem.W.codeIn K cdLL "_law_loads" = true) (kLL : PySem.W.keepIn K (.ref fLL) = true)
    (aLI : PySem.W.nsIn K mainGlobals "_law_is_assignment" = some (some (.ref fLI))) (lLI : K.lookup fLI = some ⟨ocLI, odLI, .func (PySem.W.fnOf "_law_is_assignment" "_law_is_assignment" (defArgs sLIsA) (defBody sLIsA) (defScope sLIsA) .none kVLI dcLI pmLI anLI cdLI ctLI), slLI⟩)
      (cLI : PySem.W.codeIn K cdLI "_law_is_assignment" = true) (kLI : PySem.W.keepIn K (.ref fLI) = true)
    (aCr : PySem.W.nsIn K mainGlobals "_law_crossed" = some (some (.ref fCr))) (lCr : K.lookup fCr = some ⟨ocCr, odCr, .func (PySem.W.fnOf "_law_crossed" "_law_crossed" (defArgs sCross) (defBody sCross) (defScope sCross) .none kVCr dcCr pmCr anCr cdCr ctCr), slCr⟩)
      (cCr : PySem.W.codeIn K cdCr "_law_crossed" = true) (kCr : PySem.W.keepIn K (.ref fCr) = true)
    (aFi : PySem.W.nsIn K mainGlobals "_law_first" = some (some (.ref fFi))) (lFi : K.lookup fFi = some ⟨ocFi, odFi, .func (PySem.W.fnOf "_law_first" "_law_first" (defArgs sFirst) (defBody sFirst) (defScope sFirst) .none kVFi dcFi pmFi anFi cdFi ctFi), slFi⟩)
      (cFi : PySem.W.codeIn K cdFi "_law_first" = true) (kFi : PySem.W.keepIn K (.ref fFi) = true)
    (aLa : PySem.W.nsIn K mainGlobals "law" = some (some (.ref fLa))) (lLa : K.lookup fLa = some ⟨ocLa, odLa, .func (PySem.W.fnOf "law" "law" (defArgs sLaw) (defBody sLaw) (defScope sLaw) .none kVLa dcLa pmLa anLa cdLa ctLa), slLa⟩)
      (cLa : PySem.W.codeIn K cdLa "law" = true) (kLa : PySem.W.keepIn K (.ref fLa) = true)
    (z0 : PySem.W.nsIn K mainGlobals "isinstance" = some none)
    (z1 : PySem.W.nsIn K mainGlobals "int" = some none)
    (z2 : PySem.W.nsIn K mainGlobals "bool" = some none)
    (z3 : PySem.W.nsIn K mainGlobals "tuple" = some none)
    (z4 : PySem.W.nsIn K mainGlobals "list" = some none)
    (z5 : PySem.W.nsIn K mainGlobals "len" = some none)
    (z6 : PySem.W.nsIn K mainGlobals "all" = some none)
    (z7 : PySem.W.nsIn K mainGlobals "sum" = some none)
    (z8 : PySem.W.nsIn K mainGlobals "zip" = some none)
    (z9 : PySem.W.nsIn K mainGlobals "abs" = some none)
    (z10 : PySem.W.nsIn K mainGlobals "min" = some none)
    (z11 : PySem.W.nsIn K mainGlobals "range" = some none)
    (z12 : PySem.W.nsIn K mainGlobals "repr" = some none)
    : ∃ fd : FuncData, (∀ (s : Shared) (v : Value), BindsTo s fd ⟨[v], []⟩ [("_law_script", v)]) ∧ ∀ base : Heap, K.In base → base.Ns mainGlobals mg → FnG l.prog w K mg base 8 fa fd ["_law_script"] (spLaw K) := by
  have e := hfa.symm.trans (PySem.W.mg_of X G aLa)
  cases e
  have FWh := fun_mk (st := sWhole) lWh cWh kWh
  have bWh := FWh.binds (ps := ["value"]) fun _ _ _ _ _ _ us hl => match us, hl with | [_], _ => rfl
  have gWh := PySem.W.mg_of X G aWh
  have FWi := fun_mk (st := sWithin) lWi cWi kWi
  have bWi := FWi.binds (ps := ["value", "least", "most"]) fun _ _ _ _ _ _ us hl => match us, hl with | [_, _, _], _ => rfl
  have gWi := PySem.W.mg_of X G aWi
  have FTo := fun_mk (st := sTupOf) lTo cTo kTo
  have bTo := FTo.binds (ps := ["value", "least", "most"]) fun _ _ _ _ _ _ us hl => match us, hl with | [_, _, _], _ => rfl
  have gTo := PySem.W.mg_of X G aTo
  have FSp := fun_mk (st := sSp) lSp cSp kSp
  have bSp := FSp.binds (ps := ["value", "size", "total"]) fun _ _ _ _ _ _ us hl => match us, hl with | [_, _, _], _ => rfl
  have gSp := PySem.W.mg_of X G aSp
  have FIA := fun_mk (st := sIA) lIA cIA kIA
  have bIA := FIA.binds (ps := ["instance", "value"]) fun _ _ _ _ _ _ us hl => match us, hl with | [_, _], _ => rfl
  have gIA := PySem.W.mg_of X G aIA
  have FLo := fun_mk (st := sLoads) lLo cLo kLo
  have bLo := FLo.binds (ps := ["instance", "assignment"]) fun _ _ _ _ _ _ us hl => match us, hl with | [_, _], _ => rfl
  have gLo := PySem.W.mg_of X G aLo
  have FSt := fun_mk (st := sStart) lSt cSt kSt
  have bSt := FSt.binds (ps := ["_law_script"]) fun _ _ _ _ _ _ us hl => match us, hl with | [_], _ => rfl
  have gSt := PySem.W.mg_of X G aSt
  have FDr := fun_mk (st := sDraw) lDr cDr kDr
  have bDr := FDr.binds (ps := ["_law_state", "_law_below"]) fun _ _ _ _ _ _ us hl => match us, hl with | [_, _], _ => rfl
  have gDr := PySem.W.mg_of X G aDr
  have FIn := fun_mk (st := sInst) lIn cIn kIn
  have bIn := FIn.binds (ps := ["_law_state", "_law_posts", "_law_groups", "_law_most"]) fun _ _ _ _ _ _ us hl => match us, hl with | [_, _, _, _], _ => rfl
  have gIn := PySem.W.mg_of X G aIn
  have FFa := fun_mk (st := sFar) lFa cFa kFa
  have bFa := FFa.binds (ps := ["_law_state", "_law_most"]) fun _ _ _ _ _ _ us hl => match us, hl with | [_, _], _ => rfl
  have gFa := PySem.W.mg_of X G aFa
  have FAs := fun_mk (st := sAsg) lAs cAs kAs
  have bAs := FAs.binds (ps := ["_law_state", "_law_instance_here"]) fun _ _ _ _ _ _ us hl => match us, hl with | [_, _], _ => rfl
  have gAs := PySem.W.mg_of X G aAs
  have FOd := fun_mk (st := sOdd) lOd cOd kOd
  have bOd := FOd.binds (ps := ["_law_state"]) fun _ _ _ _ _ _ us hl => match us, hl with | [_], _ => rfl
  have gOd := PySem.W.mg_of X G aOd
  have FBe := fun_mk (st := sBent) lBe cBe kBe
  have bBe := FBe.binds (ps := ["_law_state", "_law_value"]) fun _ _ _ _ _ _ us hl => match us, hl with | [_, _], _ => rfl
  have gBe := PySem.W.mg_of X G aBe
  have FNa := fun_mk (st := sNat) lNa cNa kNa
  have bNa := FNa.binds (ps := ["_law_value"]) fun _ _ _ _ _ _ us hl => match us, hl with | [_], _ => rfl
  have gNa := PySem.W.mg_of X G aNa
  have FFo := fun_mk (st := sForm) lFo cFo kFo
  have bFo := FFo.binds (ps := ["_law_value", "_law_size"]) fun _ _ _ _ _ _ us hl => match us, hl with | [_, _], _ => rfl
  have gFo := PySem.W.mg_of X G aFo
  have FLL := fun_mk (st := sLLoads) lLL cLL kLL
  have bLL := FLL.binds (ps := ["_law_instance_here", "_law_assignment_here"]) fun _ _ _ _ _ _ us hl => match us, hl with | [_, _], _ => rfl
  have gLL := PySem.W.mg_of X G aLL
  have FLI := fun_mk (st := sLIsA) lLI cLI kLI
  have bLI := FLI.binds (ps := ["_law_instance_here", "_law_value"]) fun _ _ _ _ _ _ us hl => match us, hl with | [_, _], _ => rfl
  have gLI := PySem.W.mg_of X G aLI
  have FCr := fun_mk (st := sCross) lCr cCr kCr
  have bCr := FCr.binds (ps := ["_law_state", "_law_instance_here", "_law_assignment_here"]) fun _ _ _ _ _ _ us hl => match us, hl with | [_, _, _], _ => rfl
  have gCr := PySem.W.mg_of X G aCr
  have FFi := fun_mk (st := sFirst) lFi cFi kFi
  have bFi := FFi.binds (ps := ["_law_instance_here"]) fun _ _ _ _ _ _ us hl => match us, hl with | [_], _ => rfl
  have gFi := PySem.W.mg_of X G aFi
  have FLa := fun_mk (st := sLaw) lLa cLa kLa
  have m_isinstance := PySem.W.mg_none_of X G z0
  have m_int := PySem.W.mg_none_of X G z1
  have m_bool := PySem.W.mg_none_of X G z2
  have m_tuple := PySem.W.mg_none_of X G z3
  have m_list := PySem.W.mg_none_of X G z4
  have m_len := PySem.W.mg_none_of X G z5
  have m_all := PySem.W.mg_none_of X G z6
  have m_sum := PySem.W.mg_none_of X G z7
  have m_zip := PySem.W.mg_none_of X G z8
  have m_abs := PySem.W.mg_none_of X G z9
  have m_min := PySem.W.mg_none_of X G z10
  have m_range := PySem.W.mg_none_of X G z11
  have m_repr := PySem.W.mg_none_of X G z12
  refine ⟨PySem.W.fnOf "law" "law" (defArgs sLaw) (defBody sLaw) (defScope sLaw) .none kVLa dcLa pmLa anLa cdLa ctLa, fun s v => .of_eq rfl, fun base _ _ => ?_⟩
  have GWh := ok_whole (P := l.prog) (w := w) (base := base) (mg := mg) (k := 0) FWh m_isinstance m_int m_bool
  have GWi := ok_within (P := l.prog) (w := w) (base := base) (mg := mg) (k := 0) FWi FWh bWh gWh GWh
  have GTo := ok_tupOf (P := l.prog) (w := w) (base := base) (mg := mg) (k := 0) FTo m_isinstance m_tuple m_len
  have GSp := ok_Sp (P := l.prog) (w := w) (base := base) (mg := mg) FSp  FTo bTo gTo GTo FWi bWi gWi GWi m_all m_sum
  have GLo := ok_loads (P := l.prog) (w := w) (base := base) (mg := mg) (k := 0) FLo m_len m_zip m_tuple
  have GIA := ok_IA (P := l.prog) (w := w) (base := base) (mg := mg) FIA  FTo bTo gTo GTo FSp bSp gSp GSp FLo bLo gLo GLo m_len m_zip m_all
  have GSt := ok_start (P := l.prog) (w := w) (base := base) (mg := mg) (k := 0) FSt m_abs m_int m_len
  have GDr := ok_draw (P := l.prog) (w := w) (base := base) (mg := mg) (k := 0) FDr m_len
  have GIn := ok_inst (P := l.prog) (w := w) (base := base) (mg := mg) (k := 0) FIn FDr bDr gDr GDr m_tuple m_range m_list m_len
  have GFa := ok_far (P := l.prog) (w := w) (base := base) (mg := mg) (k := 0) FFa FDr bDr gDr GDr m_min
  have GAs := ok_asg (P := l.prog) (w := w) (base := base) (mg := mg) (k := 0) FAs FFa bFa gFa GFa m_list m_min m_tuple
  have GOd := ok_odd (P := l.prog) (w := w) (base := base) (mg := mg) (k := 0) FOd FDr bDr gDr GDr
  have GBe := ok_bent (P := l.prog) (w := w) (base := base) (mg := mg) FBe bBe gBe FDr bDr gDr GDr FOd bOd gOd GOd m_isinstance m_tuple m_len m_list m_int m_bool 7
  have GNa := ok_nat (P := l.prog) (w := w) (base := base) (mg := mg) (k := 0) FNa m_isinstance m_int m_bool
  have GFo := ok_form (P := l.prog) (w := w) (base := base) (mg := mg) (k := 0) FFo FNa bNa gNa GNa m_isinstance m_tuple m_len
  have GLL := ok_lloads (P := l.prog) (w := w) (base := base) (mg := mg) (k := 0) FLL m_len m_zip
  have GLI := ok_lisA (P := l.prog) (w := w) (base := base) (mg := mg) (k := 0) FLI FFo bFo gFo GFo FLL bLL gLL GLL m_isinstance m_tuple m_len m_zip m_sum
  have GCr := ok_cross (P := l.prog) (w := w) (base := base) (mg := mg) (k := 0) FCr FDr bDr gDr GDr m_len m_list m_tuple
  have GFi := ok_first (P := l.prog) (w := w) (base := base) (mg := mg) (k := 0) FFi m_len m_tuple
  exact ok_law FLa FSt bSt gSt GSt FIn bIn gIn GIn FDr bDr gDr GDr FAs bAs gAs GAs FFi bFi gFi GFi FOd bOd gOd GOd FBe bBe gBe GBe FCr bCr gCr GCr FIA bIA gIA GIA FLI bLI gLI GLI m_range m_list m_repr m_isinstance m_bool

end Pv

open PySem PySem.W PyProof.Rows
set_option maxRecDepth 100000 in
set_option maxHeartbeats 0 in
theorem PySem.Challenge.cw_postvote_k03_assignments_judged_holds : PySem.Challenge.rw_postvote_k03_assignments_judged.Holds := by
  w_on; o_law; k_head; (case hw => w_witness2)
  k_fill
  refine Pv.walkG (l := PySem.Challenge.rw_postvote_k03_assignments_judged) (n := 63) (k := 8) (x := "_law_script") (sp := fun w => Pv.spLaw _) rfl (by decide) rfl ⟨rfl, by decide, by decide⟩ (fun w h Y => PySem.W.kIn_of Y) ?F (fun _ _ a ns hl _ _ hS => ⟨a, ns, rfl, hS, hl, fun _ => rfl⟩)
  case F =>
    intro w mg fa h KX G hmg
    refine' Pv.all_mk KX G hmg ?aWh ?lWh ?cWh ?kWh ?aWi ?lWi ?cWi ?kWi ?aTo ?lTo ?cTo ?kTo ?aSp ?lSp ?cSp ?kSp ?aIA ?lIA ?cIA ?kIA ?aLo ?lLo ?cLo ?kLo ?aSt ?lSt ?cSt ?kSt ?aDr ?lDr ?cDr ?kDr ?aIn ?lIn ?cIn ?kIn ?aFa ?lFa ?cFa ?kFa ?aAs ?lAs ?cAs ?kAs ?aOd ?lOd ?cOd ?kOd ?aBe ?lBe ?cBe ?kBe ?aNa ?lNa ?cNa ?kNa ?aFo ?lFo ?cFo ?kFo ?aLL ?lLL ?cLL ?kLL ?aLI ?lLI ?cLI ?kLI ?aCr ?lCr ?cCr ?kCr ?aFi ?lFi ?cFi ?kFi ?aLa ?lLa ?cLa ?kLa ?z0 ?z1 ?z2 ?z3 ?z4 ?z5 ?z6 ?z7 ?z8 ?z9 ?z10 ?z11 ?z12
    (case aWh => k_is); (case lWh => k_is); (case cWh => k_is); (case kWh => k_is); (case aWi => k_is); (case lWi => k_is); (case cWi => k_is); (case kWi => k_is); (case aTo => k_is); (case lTo => k_is); (case cTo => k_is); (case kTo => k_is); (case aSp => k_is); (case lSp => k_is); (case cSp => k_is); (case kSp => k_is); (case aIA => k_is); (case lIA => k_is); (case cIA => k_is); (case kIA => k_is); (case aLo => k_is); (case lLo => k_is); (case cLo => k_is); (case kLo => k_is); (case aSt => k_is); (case lSt => k_is); (case cSt => k_is); (case kSt => k_is); (case aDr => k_is); (case lDr => k_is); (case cDr => k_is); (case kDr => k_is); (case aIn => k_is); (case lIn => k_is); (case cIn => k_is); (case kIn => k_is); (case aFa => k_is); (case lFa => k_is); (case cFa => k_is); (case kFa => k_is); (case aAs => k_is); (case lAs => k_is); (case cAs => k_is); (case kAs => k_is); (case aOd => k_is); (case lOd => k_is); (case cOd => k_is); (case kOd => k_is); (case aBe => k_is); (case lBe => k_is); (case cBe => k_is); (case kBe => k_is); (case aNa => k_is); (case lNa => k_is); (case cNa => k_is); (case kNa => k_is); (case aFo => k_is); (case lFo => k_is); (case cFo => k_is); (case kFo => k_is); (case aLL => k_is); (case lLL => k_is); (case cLL => k_is); (case kLL => k_is); (case aLI => k_is); (case lLI => k_is); (case cLI => k_is); (case kLI => k_is); (case aCr => k_is); (case lCr => k_is); (case cCr => k_is); (case kCr => k_is); (case aFi => k_is); (case lFi => k_is); (case cFi => k_is); (case kFi => k_is); (case aLa => k_is); (case lLa => k_is); (case cLa => k_is); (case kLa => k_is); (case z0 => k_is); (case z1 => k_is); (case z2 => k_is); (case z3 => k_is); (case z4 => k_is); (case z5 => k_is); (case z6 => k_is); (case z7 => k_is); (case z8 => k_is); (case z9 => k_is); (case z10 => k_is); (case z11 => k_is); (case z12 => k_is)
