package model

import (
	"math"
	"math/big"
	"reflect"
	"slices"
	"strconv"
	"strings"
	"testing"

	"secateur/api"
	"secateur/dom"
)

const top = 1 << 20

// ranges reads pairs of ends.
func ranges(ends ...int) []api.Range {
	var d []api.Range
	for i := 0; i < len(ends); i += 2 {
		d = append(d, api.Range{Lo: ends[i], Hi: ends[i+1]})
	}
	return d
}

// places are the domains that most tests are over: 1 to 4 are truths; of the others 6 and 7 have one value too many.
func places() [][]api.Range {
	return [][]api.Range{ranges(0, 3), ranges(0, 1), ranges(1, 1), ranges(0, 0), ranges(0, 1), ranges(-2, 0), ranges(-1, 1), ranges(0, 1, 3, 3)}
}

// named are variables a0, a1, .. with the values 0 to 1.
func named(n int) []api.Var {
	var l []api.Var
	for i := range n {
		l = append(l, api.Var{Name: "a" + strconv.Itoa(i), D: ranges(0, 1)})
	}
	return l
}

// numbers are those from 0 on.
func numbers(n int) []int {
	var l []int
	for i := range n {
		l = append(l, i)
	}
	return l
}

// dice are numbers that look like chance, and are the same ones each time.
type dice uint64

func (r *dice) next(n int) int {
	*r = *r*6364136223846793005 + 1442695040888963407
	return int(uint64(*r)>>33) % n
}

func (r *dice) of(l ...int) int { return l[r.next(len(l))] }

// list are at most n numbers out of some.
func (r *dice) list(n int, out ...int) []int {
	var l []int
	for range r.next(n + 1) {
		l = append(l, r.of(out...))
	}
	return l
}

// P4.1: lengths, and what stands where.
func TestName(t *testing.T) {
	for s, want := range map[string]bool{
		"": false, "a": true, "z": true, "_": false, "0": false, "9": false, "A": false, "-": false, " ": false, "\x00": false,
		"a_": true, "a0": true, "a9": true, "az": true, "aa": true, "a__": true, "x_1_y": true, "_a": false, "1a": false,
		"aZ": false, "a b": false, "a ": false, " a": false, "a-b": false, "a.": false, "a\n": false, "a\x00": false, "a`": false, "a{": false, "a/": false, "a:": false,
		"abcdefghijklmno": true, "abcdefghijklmnop": true, "abcdefghijklmnopq": false,
		"a123456789______": true, "a123456789_______": false, "abcdefghijklmnoP": false,
		"é": false, "aé": false, "ß": false, "a\u0661": false, "aａ": false, "ａ": false, "a\xff": false, "\xff": false, "a\u017f": false,
		"aéééééé": false, "abcdefghijklmné": false, "abcdefghijklmnoé": false,
		strings.Repeat("a", 1000): false,
	} {
		if Name(s) != want {
			t.Errorf("%q: %v", s, !want)
		}
	}
}

// P4.1: every byte, and every rune of few bytes, at the first place, within and at the last one.
func TestNameOfEveryByte(t *testing.T) {
	const first = "abcdefghijklmnopqrstuvwxyz"
	const within = first + "0123456789_"
	check := func(part string) {
		if Name(part) != (len(part) == 1 && strings.Contains(first, part)) {
			t.Errorf("%q alone", part)
		}
		want := len(part) == 1 && strings.Contains(within, part)
		for _, s := range []string{"a" + part, "a" + part + "b", strings.Repeat("a", 15) + part} {
			if Name(s) != want {
				t.Errorf("%q: %v", s, !want)
			}
		}
		if Name(part+"a") != (len(part) == 1 && strings.Contains(first, part)) {
			t.Errorf("%q ahead", part)
		}
	}
	for b := range 256 {
		check(string([]byte{byte(b)}))
	}
	for r := rune(128); r < 0x3000; r++ {
		check(string(r))
	}
}

// fieldsOf are the fields that the chapter's table names of a kind, a letter each: T are the rows, R is Rhs.
func fieldsOf(kind int) string {
	switch kind {
	case api.ConLin:
		return "VCOR"
	case api.ConAll, api.ConElem, api.ConLex:
		return "V"
	case api.ConTab:
		return "VT"
	case api.ConReif:
		return "VCORB"
	case api.ConClause:
		return "VC"
	}
	return ""
}

// filled are the fields of a constraint that are not 0 or empty.
func filled(c api.Con) string {
	s := ""
	for _, x := range []struct {
		is   bool
		name string
	}{{len(c.Vars) > 0, "V"}, {len(c.Coefs) > 0, "C"}, {c.Op != 0, "O"}, {c.Rhs != 0, "R"}, {len(c.Rows) > 0, "T"}, {c.B != 0, "B"}} {
		if x.is {
			s += x.name
		}
	}
	return s
}

// slowCon tells of a constraint by the words of P4.2, one by one.
func slowCon(d [][]api.Range, c api.Con) api.Errno {
	if !slices.Contains([]int{api.ConLin, api.ConAll, api.ConTab, api.ConElem, api.ConReif, api.ConClause, api.ConLex}, c.Kind) {
		return api.ErrModelForm
	}
	vars := slices.Clone(c.Vars)
	if c.Kind == api.ConReif {
		vars = append(vars, c.B)
	}
	for _, v := range vars {
		if v < 0 || v > len(d)-1 {
			return api.ErrModelVar
		}
	}
	if strings.Trim(filled(c), fieldsOf(c.Kind)) != "" || !slowRow(d, c) {
		return api.ErrModelForm
	}
	if strings.Contains(fieldsOf(c.Kind), "C") && slowBig(c.Coefs, c.Rhs) {
		return api.ErrModelBig
	}
	return api.OK
}

func slowRow(d [][]api.Range, c api.Con) bool {
	twice, zero, sign, truths, rows := false, false, true, true, true
	for i, v := range c.Vars {
		twice = twice || slices.Index(c.Vars, v) < i
		truths = truths && slowTruth(d[v])
	}
	for _, a := range c.Coefs {
		zero = zero || a == 0
		sign = sign && a*a == 1
	}
	for _, r := range c.Rows {
		rows = rows && len(r) == len(c.Vars)
		for _, v := range r {
			rows = rows && !(v < -1048576) && !(v > 1048576)
		}
	}
	n := len(c.Vars)
	sum := n > 0 && !twice && !zero && len(c.Coefs) == n
	op := c.Op == api.Le || c.Op == api.Eq || c.Op == api.Ne
	switch c.Kind {
	case api.ConLin:
		return sum && op
	case api.ConAll:
		return n > 0 && !twice
	case api.ConTab:
		return n > 0 && !twice && rows && len(c.Rows) < 1025
	case api.ConElem:
		return n > 2 && !twice
	case api.ConReif:
		return sum && op && slowTruth(d[c.B]) && slices.Index(c.Vars, c.B) < 0
	case api.ConClause:
		return sum && sign && truths
	}
	return n > 0 && n&1 == 0
}

func slowTruth(d []api.Range) bool {
	for _, v := range dom.Values(d) {
		if v != 0 && v != 1 {
			return false
		}
	}
	return true
}

func slowBig(coefs []int, rhs int) bool {
	total := new(big.Int).Abs(big.NewInt(int64(rhs)))
	for _, a := range coefs {
		n := new(big.Int).Abs(big.NewInt(int64(a)))
		total.Add(total, n.Mul(n, big.NewInt(1<<20)))
	}
	return total.Cmp(big.NewInt(1<<62)) > 0
}

func slowGoal(d [][]api.Range, g api.Goal) api.Errno {
	if g.Kind == api.GoalMin || g.Kind == api.GoalMax {
		return slowCon(d, api.Con{Kind: api.ConLin, Vars: g.Vars, Coefs: g.Coefs, Op: api.Le, Rhs: 0})
	}
	if g.Kind != api.GoalNone || len(g.Vars)+len(g.Coefs) > 0 {
		return api.ErrModelForm
	}
	return api.OK
}

// conCase is a constraint and what is told of it.
type conCase struct {
	name string
	c    api.Con
	want api.Errno
}

func checkCons(t *testing.T, d [][]api.Range, l []conCase) {
	t.Helper()
	for _, x := range l {
		if e := Con(d, x.c); e != x.want {
			t.Errorf("%s: %d, want %d", x.name, e, x.want)
		}
		if e := slowCon(d, x.c); e != x.want {
			t.Errorf("%s: the slow way says %d, want %d", x.name, e, x.want)
		}
	}
}

// P4.2: sums, held against a number.
func TestConLin(t *testing.T) {
	checkCons(t, places(), []conCase{
		{"the chapter's example", api.Con{Vars: []int{0}, Coefs: []int{2}, Rhs: 5}, api.OK},
		{"the number 0", api.Con{Vars: []int{0}, Coefs: []int{0}, Rhs: 5}, api.ErrModelForm},
		{"several", api.Con{Vars: []int{5, 0, 1}, Coefs: []int{3, -1, 7}, Op: api.Ne, Rhs: -9}, api.OK},
		{"is", api.Con{Vars: []int{7}, Coefs: []int{-1}, Op: api.Eq}, api.OK},
		{"all of them", api.Con{Vars: numbers(8), Coefs: slices.Repeat([]int{1}, 8)}, api.OK},
		{"no variables", api.Con{}, api.ErrModelForm},
		{"no variables, empty lists", api.Con{Vars: []int{}, Coefs: []int{}}, api.ErrModelForm},
		{"no numbers", api.Con{Vars: []int{0}}, api.ErrModelForm},
		{"numbers alone", api.Con{Coefs: []int{1}}, api.ErrModelForm},
		{"too few numbers", api.Con{Vars: []int{0, 1}, Coefs: []int{1}}, api.ErrModelForm},
		{"too many numbers", api.Con{Vars: []int{0}, Coefs: []int{1, 1}}, api.ErrModelForm},
		{"a 0 at the end", api.Con{Vars: []int{0, 1, 2}, Coefs: []int{1, 1, 0}}, api.ErrModelForm},
		{"twice", api.Con{Vars: []int{0, 0}, Coefs: []int{1, 1}}, api.ErrModelForm},
		{"twice, far apart", api.Con{Vars: []int{3, 0, 1, 2, 3}, Coefs: []int{1, 1, 1, 1, 1}}, api.ErrModelForm},
		{"no way below", api.Con{Vars: []int{0}, Coefs: []int{1}, Op: -1}, api.ErrModelForm},
		{"no way above", api.Con{Vars: []int{0}, Coefs: []int{1}, Op: api.Ops}, api.ErrModelForm},
		{"a far way", api.Con{Vars: []int{0}, Coefs: []int{1}, Op: math.MinInt}, api.ErrModelForm},
		{"rows", api.Con{Vars: []int{0}, Coefs: []int{1}, Rows: [][]int{{1}}}, api.ErrModelForm},
		{"an empty row", api.Con{Vars: []int{0}, Coefs: []int{1}, Rows: [][]int{nil}}, api.ErrModelForm},
		{"no rows", api.Con{Vars: []int{0}, Coefs: []int{1}, Rows: [][]int{}}, api.OK},
		{"one that tells", api.Con{Vars: []int{0}, Coefs: []int{1}, B: 1}, api.ErrModelForm},
		{"one that tells, unknown", api.Con{Vars: []int{0}, Coefs: []int{1}, B: -1}, api.ErrModelForm},
		{"one that tells, far", api.Con{Vars: []int{0}, Coefs: []int{1}, B: 8}, api.ErrModelForm},
	})
}

// P4.2: when a sum is just not big, and when it just is.
func TestConBig(t *testing.T) {
	lin := func(rhs int, coefs ...int) api.Con {
		return api.Con{Vars: numbers(len(coefs)), Coefs: coefs, Rhs: rhs}
	}
	most := slices.Repeat([]int{1 << 39}, 8)
	l := []conCase{
		{"just not", lin(0, 1<<42), api.OK},
		{"just not, below 0", lin(0, -1<<42), api.OK},
		{"by Rhs", lin(1, 1<<42), api.ErrModelBig},
		{"by Rhs below 0", lin(-1, -1<<42), api.ErrModelBig},
		{"signs are nothing", lin(0, 1<<42, -1), api.ErrModelBig},
		{"signs of Rhs are nothing", lin(-1<<20, 1<<42), api.ErrModelBig},
		{"just not with Rhs", lin(1<<20, 1<<42-1), api.OK},
		{"just not with Rhs below 0", lin(-1<<20, 1<<42-1), api.OK},
		{"just with Rhs", lin(1<<20+1, 1<<42-1), api.ErrModelBig},
		{"just with Rhs below 0", lin(-1<<20-1, 1-1<<42), api.ErrModelBig},
		{"two halves", lin(0, 1<<41, 1<<41), api.OK},
		{"more than two halves", lin(0, 1<<41, 1<<41+1), api.ErrModelBig},
		{"half by Rhs", lin(1<<61, 1<<41), api.OK},
		{"more than half by Rhs", lin(1<<61+1, 1<<41), api.ErrModelBig},
		{"eight", lin(0, most...), api.OK},
		{"eight, and 1", lin(1, most...), api.ErrModelBig},
		{"a great Rhs", lin(1<<62-1<<20, 1), api.OK},
		{"a great Rhs below 0", lin(1<<20-1<<62, -1), api.OK},
		{"a greater Rhs", lin(1<<62-1<<20+1, 1), api.ErrModelBig},
		{"2^62", lin(1<<62, 1), api.ErrModelBig},
		{"the greatest Rhs", lin(math.MaxInt, 1), api.ErrModelBig},
		{"the least Rhs", lin(math.MinInt, 1), api.ErrModelBig},
		{"just too great", lin(0, 1<<42+1), api.ErrModelBig},
		{"wraps to 0", lin(0, 1<<44), api.ErrModelBig},
		{"wraps to little", lin(0, 1<<44+1), api.ErrModelBig},
		{"wraps below 0", lin(0, 1<<43), api.ErrModelBig},
		{"together they wrap", lin(0, 1<<42, 1<<42, 1<<42, 1<<42), api.ErrModelBig},
		{"the greatest number", lin(0, math.MaxInt), api.ErrModelBig},
		{"the least number", lin(0, math.MinInt), api.ErrModelBig},
		{"the least ones", lin(math.MinInt, math.MinInt, math.MinInt), api.ErrModelBig},
		{"of no form, and big", lin(1, 1<<42, 0), api.ErrModelForm},
	}
	checkCons(t, places(), l)
	d := append(places(), ranges(0, 1))
	for i := range l {
		l[i].c.Kind, l[i].c.B = api.ConReif, 8
	}
	checkCons(t, d, l)
	for _, x := range l {
		if x.c.Rhs == 0 {
			for _, kind := range []int{api.GoalMin, api.GoalMax} {
				if e := Goal(d, api.Goal{Kind: kind, Vars: x.c.Vars, Coefs: x.c.Coefs}); e != x.want {
					t.Errorf("a goal: %s: %d, want %d", x.name, e, x.want)
				}
			}
		}
	}
}

// P4.2: all others.
func TestConAll(t *testing.T) {
	all := func(vars ...int) api.Con { return api.Con{Kind: api.ConAll, Vars: vars} }
	l := []conCase{
		{"one", all(5), api.OK},
		{"some", all(3, 7, 1), api.OK},
		{"none", all(), api.ErrModelForm},
		{"an empty list", all([]int{}...), api.ErrModelForm},
		{"twice", all(1, 1), api.ErrModelForm},
		{"twice, apart", all(4, 1, 2, 4), api.ErrModelForm},
	}
	for _, kind := range []int{api.ConAll, api.ConTab} {
		for i := range l {
			l[i].c.Kind = kind
		}
		checkCons(t, places(), l)
	}
}

// P4.2: tables, and how many rows they have, and of what.
func TestConTab(t *testing.T) {
	tab := func(vars []int, rows ...[]int) api.Con {
		return api.Con{Kind: api.ConTab, Vars: vars, Rows: rows}
	}
	two := []int{4, 0}
	checkCons(t, places(), []conCase{
		{"some", tab(two, []int{1, 2}, []int{0, 5}), api.OK},
		{"a row twice", tab(two, []int{1, 2}, []int{1, 2}), api.OK},
		{"no rows", tab(two), api.OK},
		{"an empty list of rows", tab(two, [][]int{}...), api.OK},
		{"the ends", tab(two, []int{top, -top}, []int{-top, top}), api.OK},
		{"beyond", tab(two, []int{0, top + 1}), api.ErrModelForm},
		{"below", tab(two, []int{-top - 1, 0}), api.ErrModelForm},
		{"far beyond", tab(two, []int{0, math.MaxInt}), api.ErrModelForm},
		{"far below", tab(two, []int{0, math.MinInt}), api.ErrModelForm},
		{"the last row beyond", tab(two, []int{0, 0}, []int{0, 0}, []int{0, top + 1}), api.ErrModelForm},
		{"a short row", tab(two, []int{0}), api.ErrModelForm},
		{"a long row", tab(two, []int{0, 1, 0}), api.ErrModelForm},
		{"an empty row", tab(two, nil), api.ErrModelForm},
		{"the last row short", tab(two, []int{0, 0}, []int{0}), api.ErrModelForm},
		{"short and long, together enough", tab(two, []int{0}, []int{0, 0, 0}), api.ErrModelForm},
		{"no variables, an empty row", tab(nil, []int{}), api.ErrModelForm},
		{"twice", tab([]int{1, 1}, []int{0, 0}), api.ErrModelForm},
		{"1023 rows", tab([]int{0}, slices.Repeat([][]int{{1}}, 1023)...), api.OK},
		{"1024 rows", tab([]int{0}, slices.Repeat([][]int{{1}}, 1024)...), api.OK},
		{"1025 rows", tab([]int{0}, slices.Repeat([][]int{{1}}, 1025)...), api.ErrModelForm},
		{"1024 rows, the last one wrong", tab([]int{0}, append(slices.Repeat([][]int{{1}}, 1023), []int{1, 1})...), api.ErrModelForm},
	})
}

// P4.2: elements and lists in order: how many variables there are.
func TestConElemAndLex(t *testing.T) {
	elem := func(vars ...int) api.Con { return api.Con{Kind: api.ConElem, Vars: vars} }
	lex := func(vars ...int) api.Con { return api.Con{Kind: api.ConLex, Vars: vars} }
	checkCons(t, places(), []conCase{
		{"none", elem(), api.ErrModelForm},
		{"one", elem(0), api.ErrModelForm},
		{"two", elem(0, 1), api.ErrModelForm},
		{"three", elem(2, 0, 1), api.OK},
		{"four", elem(2, 0, 1, 7), api.OK},
		{"two of three", elem(0, 1, 0), api.ErrModelForm},
		{"twice", elem(0, 1, 2, 2), api.ErrModelForm},
		{"none in order", lex(), api.ErrModelForm},
		{"one in order", lex(0), api.ErrModelForm},
		{"two in order", lex(0, 1), api.OK},
		{"three in order", lex(0, 1, 2), api.ErrModelForm},
		{"four in order", lex(0, 1, 2, 7), api.OK},
		{"twice in order", lex(0, 0), api.OK},
		{"often in order", lex(5, 5, 5, 5, 5, 5), api.OK},
		{"five in order", lex(5, 5, 5, 5, 5), api.ErrModelForm},
	})
}

// P4.2: a variable that tells.
func TestConReif(t *testing.T) {
	reif := func(b int, vars ...int) api.Con {
		return api.Con{Kind: api.ConReif, Vars: vars, Coefs: slices.Repeat([]int{-3}, len(vars)), Op: api.Eq, Rhs: 2, B: b}
	}
	checkCons(t, places(), []conCase{
		{"0 and 1", reif(1, 0), api.OK},
		{"1 alone", reif(2, 0), api.OK},
		{"0 alone", reif(3, 0), api.OK},
		{"several", reif(4, 0, 5, 1), api.OK},
		{"more", reif(0, 1), api.ErrModelForm},
		{"others", reif(5, 1), api.ErrModelForm},
		{"one below", reif(6, 1), api.ErrModelForm},
		{"a hole, and one above", reif(7, 1), api.ErrModelForm},
		{"one of the sum", reif(1, 1), api.ErrModelForm},
		{"the last one of the sum", reif(1, 0, 5, 1), api.ErrModelForm},
		{"behind the last", reif(8, 1), api.ErrModelVar},
		{"below the first", reif(-1, 1), api.ErrModelVar},
		{"no variables", reif(1), api.ErrModelForm},
		{"twice", reif(1, 0, 0), api.ErrModelForm},
		{"no way", api.Con{Kind: api.ConReif, Vars: []int{0}, Coefs: []int{1}, Op: 3, B: 1}, api.ErrModelForm},
		{"no way below", api.Con{Kind: api.ConReif, Vars: []int{0}, Coefs: []int{1}, Op: -1, B: 1}, api.ErrModelForm},
		{"is not", api.Con{Kind: api.ConReif, Vars: []int{0}, Coefs: []int{1}, Op: api.Ne, B: 1}, api.OK},
		{"rows", api.Con{Kind: api.ConReif, Vars: []int{0}, Coefs: []int{1}, B: 1, Rows: [][]int{{1}}}, api.ErrModelForm},
	})
	d := append([][]api.Range{ranges(0, 1)}, places()...)
	checkCons(t, d, []conCase{{"the first one tells", reif(0, 1), api.OK}})
	checkCons(t, [][]api.Range{nil, ranges(0, 5)}, []conCase{{"an empty domain has no others", reif(0, 1), api.OK}})
}

// P4.2: clauses.
func TestConClause(t *testing.T) {
	clause := func(vars []int, coefs ...int) api.Con {
		return api.Con{Kind: api.ConClause, Vars: vars, Coefs: coefs}
	}
	checkCons(t, places(), []conCase{
		{"one", clause([]int{1}, 1), api.OK},
		{"one, not", clause([]int{1}, -1), api.OK},
		{"all truths", clause([]int{4, 3, 2, 1}, -1, 1, 1, -1), api.OK},
		{"the chapter's example", clause([]int{0}, 1), api.ErrModelForm},
		{"one is none at the end", clause([]int{1, 2, 5}, 1, 1, 1), api.ErrModelForm},
		{"a value below", clause([]int{6}, 1), api.ErrModelForm},
		{"a value above", clause([]int{7}, 1), api.ErrModelForm},
		{"the number 2", clause([]int{1, 2}, 1, 2), api.ErrModelForm},
		{"the number -2", clause([]int{1, 2}, -2, 1), api.ErrModelForm},
		{"the number 0", clause([]int{1, 2}, 1, 0), api.ErrModelForm},
		{"a great number", clause([]int{1}, 1<<43), api.ErrModelForm},
		{"the least number", clause([]int{1}, math.MinInt), api.ErrModelForm},
		{"none", clause(nil), api.ErrModelForm},
		{"too few", clause([]int{1, 2}, 1), api.ErrModelForm},
		{"too many", clause([]int{1}, 1, 1), api.ErrModelForm},
		{"twice", clause([]int{1, 1}, 1, -1), api.ErrModelForm},
	})
}

// rightCons are one right constraint of each kind over places.
func rightCons() []api.Con {
	return []api.Con{
		{Kind: api.ConLin, Vars: []int{0, 1}, Coefs: []int{1, 2}, Op: api.Eq, Rhs: 3},
		{Kind: api.ConAll, Vars: []int{0, 1, 2}},
		{Kind: api.ConTab, Vars: []int{0, 1}, Rows: [][]int{{1, 2}, {3, 4}}},
		{Kind: api.ConElem, Vars: []int{0, 1, 2}},
		{Kind: api.ConReif, Vars: []int{0, 2}, Coefs: []int{1, 2}, Op: api.Eq, Rhs: 3, B: 1},
		{Kind: api.ConClause, Vars: []int{1, 2}, Coefs: []int{1, -1}},
		{Kind: api.ConLex, Vars: []int{0, 1, 0, 2}},
	}
}

// P4.2: of each kind just the fields that its row names may be filled.
func TestConFields(t *testing.T) {
	d := places()
	for _, right := range rightCons() {
		if e := Con(d, right); e != api.OK {
			t.Error(right, e)
		}
		for field, fill := range map[string]func(c *api.Con){
			"C": func(c *api.Con) { c.Coefs = slices.Repeat([]int{1}, len(c.Vars)) },
			"O": func(c *api.Con) { c.Op = 1 },
			"R": func(c *api.Con) { c.Rhs = 1 },
			"T": func(c *api.Con) { c.Rows = [][]int{make([]int, len(c.Vars))} },
			"B": func(c *api.Con) { c.B = 1 },
		} {
			want := api.ErrModelForm
			if strings.Contains(fieldsOf(right.Kind), field) {
				want = api.OK
			}
			c := right
			fill(&c)
			if e := Con(d, c); e != want {
				t.Errorf("kind %d, field %s: %d, want %d", right.Kind, field, e, want)
			}
		}
		none := right
		if none.Coefs == nil {
			none.Coefs = []int{}
		}
		if none.Rows == nil {
			none.Rows = [][]int{}
		}
		if e := Con(d, none); e != api.OK {
			t.Error("empty lists", none, e)
		}
	}
}

// P4.2: kinds that are none, ahead of everything else.
func TestConKinds(t *testing.T) {
	for _, kind := range []int{-1, api.ConKinds, api.ConKinds + 1, math.MinInt, math.MaxInt} {
		for _, c := range append(rightCons(), api.Con{}, api.Con{Vars: []int{99}}, api.Con{Vars: []int{-1}, B: 99}) {
			c.Kind = kind
			if e := Con(places(), c); e != api.ErrModelForm {
				t.Error(c, e)
			}
			if e := Con(nil, c); e != api.ErrModelForm {
				t.Error(c, e)
			}
		}
	}
}

// P4.2: unknown variables are told ahead of all but the kind.
func TestConVars(t *testing.T) {
	d := places()
	for _, right := range rightCons() {
		for _, v := range []int{-1, len(d), len(d) + 1, math.MinInt, math.MaxInt} {
			for i := range right.Vars {
				c := right
				c.Vars = slices.Clone(c.Vars)
				c.Vars[i] = v
				for _, wrong := range []func(){
					func() {},
					func() { c.Op = 7 },
					func() { c.Coefs = []int{0} },
					func() { c.Coefs = slices.Repeat([]int{1 << 60}, len(c.Vars)) },
					func() { c.Rhs = math.MinInt },
					func() { c.Rows = [][]int{{top + 1}} },
					func() { c.Vars = append(c.Vars, c.Vars...) },
					func() { c.Vars = []int{v} },
				} {
					wrong()
					if e := Con(d, c); e != api.ErrModelVar {
						t.Errorf("kind %d, variable %d at %d: %d", c.Kind, v, i, e)
					}
				}
			}
		}
		c := right
		if e := Con(nil, c); e != api.ErrModelVar {
			t.Error("no variables at all", c, e)
		}
		for i, want := range []api.Errno{api.OK, api.ErrModelVar} {
			c.Vars = []int{len(d) - 1 + i, 1}
			if c.Kind == api.ConElem {
				c.Vars = append(c.Vars, 2)
			}
			if c.Kind == api.ConReif {
				c.B, c.Vars = 1, []int{len(d) - 1 + i, 2}
			}
			if c.Kind == api.ConClause && want == api.OK {
				continue
			}
			if e := Con(d, c); e != want {
				t.Error("the last one, and one behind", c, e)
			}
		}
	}
	// Of a ConReif B too, and of none of the others.
	c := api.Con{Kind: api.ConReif, Op: 9, Rhs: math.MinInt, Rows: [][]int{{1}}, B: 8}
	if e := Con(d, c); e != api.ErrModelVar {
		t.Error(e)
	}
	c.Kind = api.ConAll
	if e := Con(d, c); e != api.ErrModelForm {
		t.Error(e)
	}
}

// P4.2: what is not kept is told ahead of a sum's being big.
func TestConBigAtTheEnd(t *testing.T) {
	lin := api.Con{Vars: []int{0, 2}, Coefs: []int{1 << 50, 1 << 50}, Rhs: math.MinInt}
	reif := api.Con{Kind: api.ConReif, Vars: []int{0, 2}, Coefs: []int{1 << 50, 1 << 50}, Rhs: math.MinInt, B: 1}
	for _, right := range []api.Con{lin, reif} {
		if e := Con(places(), right); e != api.ErrModelBig {
			t.Error(right, e)
		}
		for i, wrong := range []func(c *api.Con){
			func(c *api.Con) { c.Op = 3 },
			func(c *api.Con) { c.Vars = []int{0, 0} },
			func(c *api.Con) { c.Coefs = []int{1 << 50, 0} },
			func(c *api.Con) { c.Coefs = []int{1 << 50} },
			func(c *api.Con) { c.Rows = [][]int{{1}} },
			func(c *api.Con) { c.B = 5 },
			func(c *api.Con) { c.B = 2 },
		} {
			c := right
			wrong(&c)
			if e := Con(places(), c); e != api.ErrModelForm {
				t.Error(right.Kind, i, e)
			}
		}
	}
}

// P4.2: constraints that look like chance, against the slow way.
func TestConOfMany(t *testing.T) {
	d := places()
	r := dice(4)
	var met [7][50]int
	for range 300000 {
		c := api.Con{Kind: r.next(api.ConKinds)}
		c.Vars = r.list(4, 0, 1, 2, 3, 4, 5, 6, 7)
		if c.Kind == api.ConClause {
			c.Vars = r.list(4, 1, 2, 3, 4, 1, 2, 3, 4, 6)
		}
		if r.next(20) == 0 {
			c.Vars = append(c.Vars, r.of(-1, 8, 9))
		}
		if strings.Contains(fieldsOf(c.Kind), "C") != (r.next(20) == 0) {
			for range len(c.Vars) + r.of(0, 0, 0, 0, 0, 0, 1) {
				c.Coefs = append(c.Coefs, r.of(1, -1, 1, -1, 1, -1, 1, -1, 1, -1, 2, -5, 0, 1<<40, 1<<41, -1<<41, 1<<42))
			}
		}
		if strings.Contains(fieldsOf(c.Kind), "O") != (r.next(20) == 0) {
			c.Op, c.Rhs = r.of(0, 1, 2, 0, 1, 2, 3, -1), r.of(0, 1, -1, 0, 5, 1<<61, -1<<61, 1<<62)
		}
		if strings.Contains(fieldsOf(c.Kind), "T") != (r.next(20) == 0) {
			for range r.next(3) {
				c.Rows = append(c.Rows, r.list(0))
				for range len(c.Vars) + r.of(0, 0, 0, 0, 0, 0, -1, 1) {
					c.Rows[len(c.Rows)-1] = append(c.Rows[len(c.Rows)-1], r.of(0, 1, 2, top, -top, top, -top, top, -top, 7, top+1, -top-1))
				}
			}
		}
		if strings.Contains(fieldsOf(c.Kind), "B") != (r.next(20) == 0) {
			c.B = r.of(1, 2, 3, 4, 1, 2, 3, 4, 0, 6, 7, 8, -1)
		}
		want := slowCon(d, c)
		if e := Con(d, c); e != want {
			t.Fatalf("%v: %d, want %d", c, e, want)
		}
		met[c.Kind][want]++
	}
	for kind, n := range met {
		for _, e := range []api.Errno{api.OK, api.ErrModelVar, api.ErrModelForm} {
			if n[e] < 100 {
				t.Error("seldom met", kind, e, n[e])
			}
		}
	}
	if met[api.ConLin][api.ErrModelBig] < 100 || met[api.ConReif][api.ErrModelBig] < 100 {
		t.Error("seldom big")
	}
}

// P4.2: goals.
func TestGoal(t *testing.T) {
	one, far := []int{0}, []int{8}
	for _, x := range []struct {
		name string
		g    api.Goal
		want api.Errno
	}{
		{"none", api.Goal{}, api.OK},
		{"none, empty lists", api.Goal{Vars: []int{}, Coefs: []int{}}, api.OK},
		{"none, with variables", api.Goal{Vars: one}, api.ErrModelForm},
		{"none, with numbers", api.Goal{Coefs: one}, api.ErrModelForm},
		{"none, with a sum", api.Goal{Vars: one, Coefs: []int{1}}, api.ErrModelForm},
		{"none, with an unknown variable", api.Goal{Vars: far, Coefs: []int{1}}, api.ErrModelForm},
		{"none, with a big sum", api.Goal{Vars: one, Coefs: []int{1 << 50}}, api.ErrModelForm},
		{"small", api.Goal{Kind: api.GoalMin, Vars: one, Coefs: []int{1}}, api.OK},
		{"great", api.Goal{Kind: api.GoalMax, Vars: []int{7, 0}, Coefs: []int{-1, 5}}, api.OK},
		{"no kind below", api.Goal{Kind: -1}, api.ErrModelForm},
		{"no kind above", api.Goal{Kind: 3}, api.ErrModelForm},
		{"no kind, with a sum", api.Goal{Kind: 3, Vars: one, Coefs: []int{1}}, api.ErrModelForm},
		{"no kind, with an unknown variable", api.Goal{Kind: 3, Vars: far, Coefs: []int{1}}, api.ErrModelForm},
		{"no kind, far", api.Goal{Kind: math.MinInt, Vars: far}, api.ErrModelForm},
		{"small, nothing", api.Goal{Kind: api.GoalMin}, api.ErrModelForm},
		{"great, nothing", api.Goal{Kind: api.GoalMax, Vars: []int{}, Coefs: []int{}}, api.ErrModelForm},
		{"great, unknown", api.Goal{Kind: api.GoalMax, Vars: far, Coefs: []int{1}}, api.ErrModelVar},
		{"small, below the first", api.Goal{Kind: api.GoalMin, Vars: []int{0, -1}, Coefs: []int{1, 1}}, api.ErrModelVar},
		{"small, unknown, no numbers", api.Goal{Kind: api.GoalMin, Vars: far}, api.ErrModelVar},
		{"small, unknown, big", api.Goal{Kind: api.GoalMin, Vars: far, Coefs: []int{1 << 50}}, api.ErrModelVar},
		{"small, no numbers", api.Goal{Kind: api.GoalMin, Vars: one}, api.ErrModelForm},
		{"small, a 0", api.Goal{Kind: api.GoalMin, Vars: one, Coefs: []int{0}}, api.ErrModelForm},
		{"great, too many numbers", api.Goal{Kind: api.GoalMax, Vars: one, Coefs: []int{1, 1}}, api.ErrModelForm},
		{"great, twice", api.Goal{Kind: api.GoalMax, Vars: []int{0, 0}, Coefs: []int{1, 1}}, api.ErrModelForm},
		{"great, twice, big", api.Goal{Kind: api.GoalMax, Vars: []int{0, 0}, Coefs: []int{1 << 50, 1}}, api.ErrModelForm},
		{"just not big", api.Goal{Kind: api.GoalMin, Vars: one, Coefs: []int{1 << 42}}, api.OK},
		{"just big", api.Goal{Kind: api.GoalMin, Vars: one, Coefs: []int{1<<42 + 1}}, api.ErrModelBig},
	} {
		if e := Goal(places(), x.g); e != x.want {
			t.Errorf("%s: %d, want %d", x.name, e, x.want)
		}
		if e := slowGoal(places(), x.g); e != x.want {
			t.Errorf("%s: the slow way says %d, want %d", x.name, e, x.want)
		}
	}
}

// P4.3: how much there may be in a model; that is told ahead of all else.
func TestCheckBig(t *testing.T) {
	right := api.Con{Kind: api.ConAll, Vars: []int{0}}
	for _, x := range []struct {
		name string
		m    api.Model
		want api.Errno
	}{
		{"nothing", api.Model{}, api.OK},
		{"empty lists", api.Model{Vars: []api.Var{}, Cons: []api.Con{}}, api.OK},
		{"64 variables", api.Model{Vars: named(64)}, api.OK},
		{"65 variables", api.Model{Vars: named(65)}, api.ErrBig},
		{"256 constraints", api.Model{Vars: named(1), Cons: slices.Repeat([]api.Con{right}, 256)}, api.OK},
		{"257 constraints", api.Model{Vars: named(1), Cons: slices.Repeat([]api.Con{right}, 257)}, api.ErrBig},
		{"all that may be", api.Model{Vars: named(64), Cons: slices.Repeat([]api.Con{right}, 256)}, api.OK},
		{"65 wrong variables", api.Model{Vars: make([]api.Var, 65)}, api.ErrBig},
		{"64 wrong variables", api.Model{Vars: make([]api.Var, 64)}, api.ErrModelName},
		{"257 wrong constraints", api.Model{Vars: make([]api.Var, 1), Cons: make([]api.Con, 257)}, api.ErrBig},
		{"256 wrong constraints", api.Model{Cons: make([]api.Con, 256)}, api.ErrModelForm},
		{"65 variables, and a wrong goal", api.Model{Vars: named(65), Goal: api.Goal{Kind: 9}}, api.ErrBig},
	} {
		if e := Check(x.m); e != x.want {
			t.Errorf("%s: %d, want %d", x.name, e, x.want)
		}
	}
}

// P4.3: variables: of each one its name, then whether it is there twice, then its domain; the first wrong one is told.
func TestCheckVars(t *testing.T) {
	v := func(name string, d ...int) api.Var { return api.Var{Name: name, D: ranges(d...)} }
	for _, x := range []struct {
		name string
		l    []api.Var
		want api.Errno
	}{
		{"right", []api.Var{v("x", 0, 1), v("y", -5, 5, 7, 7), v("x_1", top, top)}, api.OK},
		{"all values that may be", []api.Var{v("x", 0, 4095)}, api.OK},
		{"no name", []api.Var{v("", 0, 1)}, api.ErrModelName},
		{"no small letter", []api.Var{v("x", 0, 1), v("X", 0, 1)}, api.ErrModelName},
		{"16 bytes", []api.Var{v("abcdefghijklmnop", 0, 1)}, api.OK},
		{"17 bytes", []api.Var{v("abcdefghijklmnopq", 0, 1)}, api.ErrModelName},
		{"twice", []api.Var{v("x", 0, 1), v("x", 0, 1)}, api.ErrModelTwice},
		{"twice, apart", []api.Var{v("x", 0, 1), v("y", 0, 1), v("x", 2, 3)}, api.ErrModelTwice},
		{"not twice", []api.Var{v("x", 0, 1), v("x0", 0, 1), v("x_", 0, 1)}, api.OK},
		{"empty", []api.Var{v("x")}, api.ErrModelDom},
		{"an empty list", []api.Var{{Name: "x", D: []api.Range{}}}, api.ErrModelDom},
		{"Lo above Hi", []api.Var{v("x", 2, 1)}, api.ErrModelDom},
		{"touching", []api.Var{v("x", 0, 1, 2, 3)}, api.ErrModelDom},
		{"falling", []api.Var{v("x", 4, 5, 1, 2)}, api.ErrModelDom},
		{"beyond", []api.Var{v("x", 0, 0, top, top+1)}, api.ErrModelDom},
		{"below", []api.Var{v("x", -top-1, 0)}, api.ErrModelDom},
		{"too many values", []api.Var{v("x", 0, 4096)}, api.ErrModelDom},
		{"no name, and no domain", []api.Var{v("X", 2, 1)}, api.ErrModelName},
		{"no name, twice", []api.Var{v("x", 0, 1), v("", 0, 1), v("", 0, 1)}, api.ErrModelName},
		{"twice, and no domain", []api.Var{v("x", 0, 1), v("x", 2, 1)}, api.ErrModelTwice},
		{"no domain, then no name", []api.Var{v("x", 2, 1), v("X", 0, 1)}, api.ErrModelDom},
		{"no domain, then twice", []api.Var{v("x", 2, 1), v("x", 0, 1)}, api.ErrModelDom},
		{"twice, then no name", []api.Var{v("x", 0, 1), v("x", 0, 1), v("X", 0, 1)}, api.ErrModelTwice},
		{"twice, then no domain", []api.Var{v("x", 0, 1), v("x", 0, 1), v("y")}, api.ErrModelTwice},
		{"the last one of 64", append(named(63), v("y", 1, 0)), api.ErrModelDom},
		{"the last one of 64 twice", append(named(63), v("a0", 1, 0)), api.ErrModelTwice},
	} {
		for _, rest := range []api.Model{{}, {Cons: []api.Con{{Kind: 9}}}, {Goal: api.Goal{Kind: 9}}} {
			m := api.Model{Vars: x.l, Cons: rest.Cons, Goal: rest.Goal}
			want := x.want
			if want == api.OK && (len(m.Cons) > 0 || m.Goal.Kind != 0) {
				want = api.ErrModelForm
			}
			if e := Check(m); e != want {
				t.Errorf("%s: %d, want %d", x.name, e, want)
			}
		}
	}
}

// P4.3: then the first wrong constraint's error, then the goal's.
func TestCheckOrder(t *testing.T) {
	right := api.Con{Kind: api.ConAll, Vars: []int{0, 1}}
	form, unknown := api.Con{Kind: 9}, api.Con{Kind: api.ConAll, Vars: []int{2}}
	huge := api.Con{Vars: []int{0}, Coefs: []int{1 << 50}}
	good := api.Goal{Kind: api.GoalMin, Vars: []int{1}, Coefs: []int{1}}
	bad := api.Goal{Kind: api.GoalMin, Vars: []int{2}, Coefs: []int{1}}
	large := api.Goal{Kind: api.GoalMax, Vars: []int{1}, Coefs: []int{1 << 50}}
	for _, x := range []struct {
		name string
		l    []api.Con
		g    api.Goal
		want api.Errno
	}{
		{"right", []api.Con{right, right}, good, api.OK},
		{"no constraints", nil, good, api.OK},
		{"unknown, form", []api.Con{unknown, form}, good, api.ErrModelVar},
		{"form, unknown", []api.Con{form, unknown}, good, api.ErrModelForm},
		{"big, form", []api.Con{right, huge, form}, good, api.ErrModelBig},
		{"the last one", []api.Con{right, right, unknown}, good, api.ErrModelVar},
		{"constraint and goal", []api.Con{right, form}, bad, api.ErrModelForm},
		{"big and goal", []api.Con{huge}, bad, api.ErrModelBig},
		{"the goal", []api.Con{right}, bad, api.ErrModelVar},
		{"a big goal", []api.Con{right}, large, api.ErrModelBig},
		{"no such goal", []api.Con{right}, api.Goal{Kind: 3}, api.ErrModelForm},
		{"a goal alone", nil, large, api.ErrModelBig},
	} {
		if e := Check(api.Model{Vars: named(2), Cons: x.l, Goal: x.g}); e != x.want {
			t.Errorf("%s: %d, want %d", x.name, e, x.want)
		}
	}
	// What is a truth hangs on the model's own domains, each at its number.
	reif := api.Con{Kind: api.ConReif, Vars: []int{0}, Coefs: []int{1}, B: 1}
	for i, want := range []api.Errno{api.OK, api.ErrModelForm} {
		l := named(2)
		l[i].D = ranges(0, 2)
		if e := Check(api.Model{Vars: l, Cons: []api.Con{reif}}); e != want {
			t.Error(i, e)
		}
	}
}

// whole is a model in which every list has something; it need not be right.
func whole() api.Model {
	return api.Model{
		Vars: []api.Var{{Name: "x", D: ranges(0, 1, 3, 9)}, {Name: "y", D: ranges(0, 1)}, {Name: "z", D: ranges(0, 1)}},
		Cons: []api.Con{
			{Kind: api.ConTab, Vars: []int{0, 1}, Rows: [][]int{{1, 0}, {0, 1}, {3, 1}}},
			{Kind: api.ConReif, Vars: []int{0, 2}, Coefs: []int{1, 2}, Op: api.Ne, Rhs: 3, B: 1},
			{Kind: api.ConTab, Vars: []int{1}, Coefs: []int{4, 5}, Op: 1, Rhs: 7, Rows: [][]int{{1}, nil, {2, 3}}, B: 2},
		},
		Goal: api.Goal{Kind: api.GoalMax, Vars: []int{2, 0}, Coefs: []int{1, -1}},
	}
}

// changes are all kinds of ways in which a model becomes another one.
func changes() map[string]func(m *api.Model) {
	return map[string]func(m *api.Model){
		"name":               func(m *api.Model) { m.Vars[2].Name = "w" },
		"Lo":                 func(m *api.Model) { m.Vars[0].D[1].Lo = 4 },
		"Hi":                 func(m *api.Model) { m.Vars[0].D[1].Hi = 8 },
		"a range more":       func(m *api.Model) { m.Vars[1].D = append(m.Vars[1].D, api.Range{Lo: 9, Hi: 9}) },
		"a range less":       func(m *api.Model) { m.Vars[0].D = m.Vars[0].D[:1] },
		"no domain":          func(m *api.Model) { m.Vars[0].D = nil },
		"a variable more":    func(m *api.Model) { m.Vars = append(m.Vars, api.Var{Name: "v", D: ranges(0, 1)}) },
		"an empty variable":  func(m *api.Model) { m.Vars = append(m.Vars, api.Var{}) },
		"a variable less":    func(m *api.Model) { m.Vars = m.Vars[:2] },
		"no variables":       func(m *api.Model) { m.Vars = nil },
		"other order":        func(m *api.Model) { m.Vars[0], m.Vars[1] = m.Vars[1], m.Vars[0] },
		"kind":               func(m *api.Model) { m.Cons[1].Kind = api.ConLin },
		"variable":           func(m *api.Model) { m.Cons[1].Vars[1] = 1 },
		"variables' order":   func(m *api.Model) { slices.Reverse(m.Cons[0].Vars) },
		"variables' number":  func(m *api.Model) { m.Cons[0].Vars = m.Cons[0].Vars[:1] },
		"coefficient":        func(m *api.Model) { m.Cons[1].Coefs[0] = 2 },
		"coefficients":       func(m *api.Model) { m.Cons[1].Coefs = nil },
		"coefficients, more": func(m *api.Model) { m.Cons[0].Coefs = []int{0} },
		"op":                 func(m *api.Model) { m.Cons[2].Op = 0 },
		"rhs":                func(m *api.Model) { m.Cons[2].Rhs = -7 },
		"value of a row":     func(m *api.Model) { m.Cons[0].Rows[2][1] = 0 },
		"rows' order":        func(m *api.Model) { slices.Reverse(m.Cons[0].Rows) },
		"a row longer":       func(m *api.Model) { m.Cons[2].Rows[1] = []int{0} },
		"a row shorter":      func(m *api.Model) { m.Cons[2].Rows[2] = m.Cons[2].Rows[2][:1] },
		"a row more":         func(m *api.Model) { m.Cons[0].Rows = append(m.Cons[0].Rows, nil) },
		"a row less":         func(m *api.Model) { m.Cons[0].Rows = m.Cons[0].Rows[:2] },
		"a row elsewhere":    func(m *api.Model) { m.Cons[2].Rows = [][]int{{1}, {2, 3}, nil} },
		"b":                  func(m *api.Model) { m.Cons[1].B = 2 },
		"b of another kind":  func(m *api.Model) { m.Cons[2].B = 1 },
		"a constraint more":  func(m *api.Model) { m.Cons = append(m.Cons, api.Con{}) },
		"a constraint less":  func(m *api.Model) { m.Cons = m.Cons[:2] },
		"no constraints":     func(m *api.Model) { m.Cons = nil },
		"constraints' order": func(m *api.Model) { m.Cons[0], m.Cons[1] = m.Cons[1], m.Cons[0] },
		"goal's kind":        func(m *api.Model) { m.Goal.Kind = api.GoalMin },
		"goal's variables":   func(m *api.Model) { m.Goal.Vars[0] = 1 },
		"goal's order":       func(m *api.Model) { slices.Reverse(m.Goal.Vars) },
		"goal's numbers":     func(m *api.Model) { m.Goal.Coefs[1] = 1 },
		"goal's fewer":       func(m *api.Model) { m.Goal.Coefs = m.Goal.Coefs[:1] },
		"no goal":            func(m *api.Model) { m.Goal = api.Goal{} },
	}
}

// P4.4: just the same model is the same, whichever of the two is changed; and what is done to a copy is not done to the original.
func TestSameAndCopy(t *testing.T) {
	if !Same(whole(), whole()) || !Same(api.Model{}, api.Model{}) || Same(whole(), api.Model{}) || Same(api.Model{}, whole()) {
		t.Error("whole")
	}
	for name, change := range changes() {
		m := whole()
		c := Copy(m)
		if !Same(m, c) || !Same(c, m) || !reflect.DeepEqual(m, c) {
			t.Fatal(name, "is no copy", c)
		}
		change(&c)
		if !reflect.DeepEqual(m, whole()) {
			t.Error(name, "changed the original")
		}
		if Same(m, c) || Same(c, m) {
			t.Error(name, "is told as the same")
		}
		if d := Copy(c); !Same(c, d) || !Same(d, c) {
			t.Error(name, "is not copied")
		}
		if !Same(m, m) || !Same(c, c) {
			t.Error(name, "is not itself")
		}
		c = Copy(m)
		change(&m)
		if !reflect.DeepEqual(c, whole()) {
			t.Error(name, "changed the copy")
		}
	}
}

// P4.4, R3: an empty list is as nil, at each place.
func TestSameOfEmptyLists(t *testing.T) {
	a := api.Model{Vars: []api.Var{{Name: "x"}}, Cons: []api.Con{{Rows: [][]int{nil}}, {}}}
	b := api.Model{
		Vars: []api.Var{{Name: "x", D: []api.Range{}}},
		Cons: []api.Con{{Vars: []int{}, Coefs: []int{}, Rows: [][]int{{}}}, {Vars: []int{}, Coefs: []int{}, Rows: [][]int{}}},
		Goal: api.Goal{Vars: []int{}, Coefs: []int{}},
	}
	empty := api.Model{Vars: []api.Var{}, Cons: []api.Con{}, Goal: api.Goal{Vars: []int{}, Coefs: []int{}}}
	for _, x := range [][2]api.Model{{a, b}, {b, a}, {a, Copy(b)}, {b, Copy(b)}, {Copy(b), a}, {empty, api.Model{}}, {api.Model{}, empty}, {Copy(empty), empty}} {
		if !Same(x[0], x[1]) {
			t.Error(x)
		}
	}
	b.Cons[1].Rows = [][]int{{}}
	if Same(a, b) || Same(b, a) {
		t.Error("an empty row is a row")
	}
	if Same(api.Model{}, api.Model{Vars: make([]api.Var, 1)}) || Same(api.Model{}, api.Model{Cons: make([]api.Con, 1)}) {
		t.Error("an empty item is an item")
	}
}

// P4.4: the domains, in order.
func TestDoms(t *testing.T) {
	d := Doms(whole())
	if !slices.EqualFunc(d, [][]api.Range{ranges(0, 1, 3, 9), ranges(0, 1), ranges(0, 1)}, dom.Same) {
		t.Error(d)
	}
	// Also of a model that may not be.
	d = Doms(api.Model{Vars: []api.Var{{D: ranges(3, 1)}, {}, {D: ranges(0, top, 7, 7)}}})
	if !slices.EqualFunc(d, [][]api.Range{ranges(3, 1), nil, ranges(0, top, 7, 7)}, dom.Same) {
		t.Error(d)
	}
	for _, m := range []api.Model{{}, {Vars: []api.Var{}, Cons: rightCons()}} {
		if d := Doms(m); len(d) != 0 {
			t.Error(d)
		}
	}
	if d := Doms(api.Model{Vars: named(70)}); len(d) != 70 {
		t.Error(len(d))
	}
}

// P4.4: which variables a constraint has.
func TestUses(t *testing.T) {
	for kind := range api.ConKinds {
		for _, x := range []struct{ vars, with, without []int }{
			{nil, []int{4}, nil},
			{[]int{}, []int{4}, nil},
			{[]int{7}, []int{4, 7}, []int{7}},
			{[]int{2}, []int{2, 4}, []int{2}},
			{[]int{4}, []int{4}, []int{4}},
			{[]int{9, 1, 5}, []int{1, 4, 5, 9}, []int{1, 5, 9}},
			{[]int{5, 2, 2, 5, 0, 5}, []int{0, 2, 4, 5}, []int{0, 2, 5}},
			{[]int{5, 4, 5, 4}, []int{4, 5}, []int{4, 5}},
			{[]int{63, 62, 61, 60}, []int{4, 60, 61, 62, 63}, []int{60, 61, 62, 63}},
		} {
			want := x.without
			if kind == api.ConReif {
				want = x.with
			}
			c := api.Con{Kind: kind, Vars: x.vars, Coefs: []int{8, 8}, Op: 3, Rhs: 6, Rows: [][]int{{6}}, B: 4}
			if l := Uses(c); !slices.Equal(l, want) {
				t.Error(kind, x.vars, l)
			}
		}
	}
	if l := Uses(api.Con{Kind: api.ConReif, Vars: []int{1}}); !slices.Equal(l, []int{0, 1}) {
		t.Error("B is 0", l)
	}
}

// P4.4: variables that look like chance, against the slow way.
func TestUsesOfMany(t *testing.T) {
	r := dice(44)
	for range 20000 {
		c := api.Con{Kind: r.next(api.ConKinds), Vars: r.list(12, 0, 1, 2, 3, 5, 8, 13, 21, 34, 55), B: r.next(60)}
		var want []int
		for v := range 60 {
			if slices.Contains(c.Vars, v) || c.Kind == api.ConReif && c.B == v {
				want = append(want, v)
			}
		}
		if l := Uses(c); !slices.Equal(l, want) {
			t.Fatal(c, l, want)
		}
	}
}

// rightModel is a model that is checked, over six variables, of which some are truths.
func rightModel(r *dice) api.Model {
	m := api.Model{Vars: named(6)}
	for i := range 3 {
		d, _ := dom.Of([]int{r.next(9), r.next(9), r.next(9), r.next(9)})
		m.Vars[i].D = d
	}
	places := Doms(m)
	for range 200 {
		c := api.Con{Kind: r.next(api.ConKinds), Vars: r.list(4, 0, 1, 2, 3, 4, 5)}
		switch c.Kind {
		case api.ConLin, api.ConReif, api.ConClause:
			for range c.Vars {
				c.Coefs = append(c.Coefs, r.of(1, -1))
			}
		case api.ConTab:
			c.Rows = [][]int{slices.Repeat([]int{r.next(3)}, len(c.Vars))}
		}
		if c.Kind == api.ConReif {
			c.B = r.next(6)
		}
		if Con(places, c) == api.OK {
			m.Cons = append(m.Cons, c)
		}
	}
	if v := r.list(1, 0, 1, 2, 3, 4, 5); len(v) > 0 {
		m.Goal = api.Goal{Kind: r.of(api.GoalMin, api.GoalMax), Vars: v, Coefs: []int{1}}
	}
	return m
}

// P4.5: what is checked stays right, if a domain becomes smaller, and not empty; copies are the same.
func TestSmallerStaysRight(t *testing.T) {
	r := dice(5)
	var kinds [api.ConKinds]int
	for range 300 {
		m := rightModel(&r)
		for _, c := range m.Cons {
			kinds[c.Kind]++
		}
		for range 20 {
			if e := Check(m); e != api.OK {
				t.Fatal(m, e)
			}
			c := Copy(m)
			if !Same(m, c) || Check(c) != api.OK {
				t.Fatal("the copy", m, c)
			}
			v := &m.Vars[r.next(len(m.Vars))]
			l := dom.Values(v.D)
			gone := l[r.next(len(l))]
			if len(l) > 1 {
				v.D = dom.Minus(v.D, ranges(gone, gone))
				if Same(m, c) {
					t.Fatal("smaller, and the same", m)
				}
			}
		}
		m.Vars[r.next(len(m.Vars))].D = nil
		if e := Check(m); e != api.ErrModelDom {
			t.Fatal("empty", e)
		}
	}
	for kind, n := range kinds {
		if n < 100 {
			t.Error("seldom met", kind, n)
		}
	}
}

// spare is how much room stands behind each list of a roomy model.
const spare = 3

// roomy puts a list into memory with room behind it, in which something stands.
func roomy[T any](l []T, mark T) []T {
	return append(append(make([]T, 0, len(l)+spare), l...), slices.Repeat([]T{mark}, spare)...)[:len(l)]
}

// roomyCon is a constraint, and roomyModel a model, all of whose lists have room behind them.
func roomyCon(c api.Con) api.Con {
	rows := [][]int{}
	for _, r := range c.Rows {
		rows = append(rows, roomy(r, 77))
	}
	c.Vars, c.Coefs, c.Rows = roomy(c.Vars, 77), roomy(c.Coefs, 77), roomy(rows, []int{77})
	return c
}

func roomyModel(m api.Model) api.Model {
	vars, cons := []api.Var{}, []api.Con{}
	for _, v := range m.Vars {
		vars = append(vars, api.Var{Name: v.Name, D: roomy(v.D, api.Range{Lo: 77, Hi: 77})})
	}
	for _, c := range m.Cons {
		cons = append(cons, roomyCon(c))
	}
	return api.Model{
		Vars: roomy(vars, api.Var{Name: "spare", D: ranges(7, 7)}),
		Cons: roomy(cons, api.Con{Kind: 77, Vars: []int{77}}),
		Goal: api.Goal{Kind: m.Goal.Kind, Vars: roomy(m.Goal.Vars, 77), Coefs: roomy(m.Goal.Coefs, 77)},
	}
}

// laidOpen is a model with the room behind its lists as a part of them.
func laidOpen(m api.Model) api.Model {
	open := api.Model{Goal: api.Goal{Kind: m.Goal.Kind, Vars: to(m.Goal.Vars), Coefs: to(m.Goal.Coefs)}}
	for _, v := range to(m.Vars) {
		open.Vars = append(open.Vars, api.Var{Name: v.Name, D: to(v.D)})
	}
	for _, c := range to(m.Cons) {
		rows := [][]int{}
		for _, r := range to(c.Rows) {
			rows = append(rows, to(r))
		}
		c.Vars, c.Coefs, c.Rows = to(c.Vars), to(c.Coefs), rows
		open.Cons = append(open.Cons, c)
	}
	return open
}

// to is a list up to the end of its room.
func to[T any](l []T) []T { return l[:cap(l)] }

// wipe writes over a list, and over the room behind it.
func wipe[T any](l []T, with T) {
	for i := range to(l) {
		to(l)[i] = with
	}
}

// wipeCon and wipeModel write over all lists of what they are handed, the inner ones first.
func wipeCon(c api.Con) {
	wipe(c.Vars, -9)
	wipe(c.Coefs, -9)
	for _, r := range c.Rows {
		wipe(r, -9)
	}
	wipe(c.Rows, nil)
}

func wipeModel(m api.Model) {
	for _, v := range m.Vars {
		wipe(v.D, api.Range{Lo: -9, Hi: -9})
	}
	for _, c := range m.Cons {
		wipeCon(c)
	}
	wipe(m.Vars, api.Var{})
	wipe(m.Cons, api.Con{Kind: -9})
	wipe(m.Goal.Vars, -9)
	wipe(m.Goal.Coefs, -9)
}

// R4: no call changes what it is handed, nor the room behind it.
func TestHandedInStays(t *testing.T) {
	models := []api.Model{whole(), {Vars: named(3), Cons: rightCons()}}
	r := dice(9)
	for range 50 {
		models = append(models, rightModel(&r))
	}
	for _, plain := range models {
		m, was := roomyModel(plain), laidOpen(roomyModel(plain))
		d := roomy(Doms(plain), ranges(77, 77))
		d = append(d[:0], each(d, func(x []api.Range) []api.Range { return roomy(x, api.Range{Lo: 77, Hi: 77}) })...)
		Check(m)
		for _, c := range m.Cons {
			Con(d, c)
			Uses(c)
		}
		Goal(d, m.Goal)
		Doms(m)
		Copy(m)
		Same(m, roomyModel(plain))
		if !reflect.DeepEqual(laidOpen(m), was) {
			t.Fatal("changed", m)
		}
		for i, x := range d {
			if !dom.Same(x, plain.Vars[i].D) || !dom.Same(to(x)[len(x):], slices.Repeat(ranges(77, 77), spare)) {
				t.Fatal("a domain was changed", x)
			}
		}
	}
}

// R4: what is told is its owner's: nothing of it is the argument's, and no two lists of it share memory.
func TestToldIsNew(t *testing.T) {
	m := roomyModel(whole())
	was := laidOpen(roomyModel(whole()))
	wipeModel(Copy(m))
	d := Doms(m)
	for _, x := range d {
		wipe(x, api.Range{Lo: -9, Hi: -9})
	}
	wipe(d, nil)
	for _, c := range m.Cons {
		wipe(Uses(c), -9)
	}
	if !reflect.DeepEqual(laidOpen(m), was) {
		t.Fatal("an answer shares memory with its argument", m)
	}
	c, d, l := Copy(m), Doms(m), Uses(m.Cons[1])
	wipeModel(m)
	if !reflect.DeepEqual(c, whole()) || !slices.EqualFunc(d, Doms(whole()), dom.Same) || !slices.Equal(l, []int{0, 1, 2}) {
		t.Fatal("an argument is kept in an answer", c, d, l)
	}
}

// R4: each list of an answer is written over to the end of its room, and no other one is changed by that.
func TestListsOfAnAnswer(t *testing.T) {
	same := api.Model{Vars: named(4), Cons: slices.Repeat(whole().Cons, 2)}
	shared, row := ranges(0, 5), []int{1, 2}
	for i := range same.Vars {
		same.Vars[i].D = shared
	}
	for i := range same.Cons {
		same.Cons[i].Vars, same.Cons[i].Coefs, same.Cons[i].Rows = row, row, [][]int{row, row}
	}
	same.Goal = api.Goal{Vars: row, Coefs: row}
	for i := range same.Vars {
		d, c := Doms(same), Copy(same)
		wipe(d[i], api.Range{Lo: -9, Hi: -9})
		wipe(c.Vars[i].D, api.Range{Lo: -9, Hi: -9})
		for j := range same.Vars {
			if j != i && (!dom.Same(d[j], shared) || !dom.Same(c.Vars[j].D, shared)) {
				t.Error("domains", i, j)
			}
		}
	}
	lists := func(m api.Model) [][]int {
		l := [][]int{m.Goal.Vars, m.Goal.Coefs}
		for _, c := range m.Cons {
			l = append(append(l, c.Vars, c.Coefs), c.Rows...)
		}
		return l
	}
	for i := range lists(same) {
		l := lists(Copy(same))
		wipe(l[i], -9)
		for j := range l {
			if j != i && !slices.Equal(l[j], row) {
				t.Error("numbers", i, j)
			}
		}
	}
	c := Copy(same)
	wipe(c.Cons[0].Rows, nil)
	if !slices.EqualFunc(c.Cons[1].Rows, [][]int{row, row}, slices.Equal) {
		t.Error("rows")
	}
}

// R1: as much as one call may be handed ends soon, whether it is right or not.
func TestMuch(t *testing.T) {
	const n = 1 << 17
	d := slices.Repeat([][]api.Range{ranges(0, 1)}, n)
	c := api.Con{Kind: api.ConClause, Vars: numbers(n), Coefs: slices.Repeat([]int{-1}, n)}
	if e := Con(d, c); e != api.OK {
		t.Error(e)
	}
	c.Vars[0] = n - 1
	if e := Con(d, c); e != api.ErrModelForm {
		t.Error(e)
	}
	if l := Uses(c); len(l) != n-1 || l[0] != 1 || l[n-2] != n-1 {
		t.Error(len(l))
	}
	m := api.Model{Vars: named(64)}
	for range api.MaxCons {
		m.Cons = append(m.Cons, api.Con{Kind: api.ConTab, Vars: numbers(64), Rows: slices.Repeat([][]int{numbers(64)}, 1024)})
	}
	if e := Check(m); e != api.OK {
		t.Error(e)
	}
	if Name(strings.Repeat("a", 1<<24)) {
		t.Error("a long name")
	}
}

// The document's first example of the whole.
func TestExampleOfTheWhole(t *testing.T) {
	m := api.Model{
		Vars: []api.Var{{Name: "x", D: ranges(0, 3)}, {Name: "y", D: ranges(0, 1)}},
		Cons: []api.Con{{Vars: []int{0, 1}, Coefs: []int{2, -1}, Rhs: 5}},
	}
	if e := Check(m); e != api.OK {
		t.Error(e)
	}
}
