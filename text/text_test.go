package text

import (
	"math"
	"math/big"
	"reflect"
	"regexp"
	"slices"
	"strconv"
	"strings"
	"testing"
	"unsafe"

	"secateur/api"
	"secateur/model"
)

// ranges reads pairs of ends.
func ranges(ends ...int) []api.Range {
	var d []api.Range
	for i := 0; i < len(ends); i += 2 {
		d = append(d, api.Range{Lo: ends[i], Hi: ends[i+1]})
	}
	return d
}

// places are the variables that most tests are over, and placesText their lines.
func places() []api.Var {
	return []api.Var{{Name: "x", D: ranges(0, 3)}, {Name: "y_1", D: ranges(0, 1)}, {Name: "z", D: ranges(-2, 0, 2, 2)}}
}

const placesText = "var x 0..3\nvar y_1 0..1\nvar z -2..0 2..2\n"

// dice are numbers that look like chance, and are the same ones each time.
type dice uint64

func (r *dice) next(n int) int {
	*r = *r*6364136223846793005 + 1442695040888963407
	return int(uint64(*r)>>33) % n
}

func (r *dice) of(l ...int) int { return l[r.next(len(l))] }

// list are at most n numbers out of some.
func (r *dice) list(n int, out ...int) []int {
	var l []int
	for range r.next(n + 1) {
		l = append(l, r.of(out...))
	}
	return l
}

// printed is a model's text; it fails the test if there is none.
func printed(t *testing.T, m api.Model) string {
	t.Helper()
	s, e := Print(m)
	if e != api.OK {
		t.Fatalf("%+v: %v", m, e)
	}
	return s
}

// parsed is a text's model; it fails the test if there is none.
func parsed(t *testing.T, s string) api.Model {
	t.Helper()
	m, e := Parse(s)
	if e != api.OK {
		t.Fatalf("%q: %v", s, e)
	}
	return m
}

// is holds a model and a text against each other, both ways.
func is(t *testing.T, m api.Model, s string) {
	t.Helper()
	if !Shape(m) {
		t.Errorf("%q: no shape", s)
	}
	if p, e := Print(m); p != s || e != api.OK {
		t.Errorf("%q is printed as %q, %v", s, p, e)
	}
	if p, e := Parse(s); !model.Same(p, m) || e != api.OK {
		t.Errorf("%q is parsed as %+v, %v", s, p, e)
	}
}

// isNone looks whether a text is refused, and nothing is told beside that.
func isNone(t *testing.T, s string) {
	t.Helper()
	if m, e := Parse(s); e != api.ErrTextForm || !reflect.DeepEqual(m, api.Model{}) {
		t.Errorf("%q: %+v, %v", s, m, e)
	}
}

// hasNone looks whether a model has no text, and nothing is told beside that.
func hasNone(t *testing.T, m api.Model, what ...any) {
	t.Helper()
	if Shape(m) {
		t.Error("has a shape:", what, m)
	}
	if s, e := Print(m); s != "" || e != api.ErrTextForm {
		t.Error("is printed:", what, s, e)
	}
}

// conLine is a constraint over places, and its line.
type conLine struct {
	c    api.Con
	line string
}

// conLines are constraints of all kinds, right ones and such as have a text alone.
func conLines() []conLine {
	return []conLine{
		{api.Con{Vars: []int{0, 1}, Coefs: []int{2, -1}, Rhs: 5}, "lin 2 x -1 y_1 <= 5"},
		{api.Con{Vars: []int{2}, Coefs: []int{1}, Op: api.Eq}, "lin 1 z = 0"},
		{api.Con{Vars: []int{1, 2, 0}, Coefs: []int{-7, 10, 300}, Op: api.Ne, Rhs: -12}, "lin -7 y_1 10 z 300 x != -12"},
		{api.Con{Vars: []int{0, 0}, Coefs: []int{0, 0}, Op: api.Le, Rhs: -1}, "lin 0 x 0 x <= -1"},
		{api.Con{Kind: api.ConAll, Vars: []int{2, 0}}, "all z x"},
		{api.Con{Kind: api.ConAll, Vars: []int{0}}, "all x"},
		{api.Con{Kind: api.ConAll, Vars: []int{1, 1, 1}}, "all y_1 y_1 y_1"},
		{api.Con{Kind: api.ConTab, Vars: []int{0, 1}}, "tab x y_1 :"},
		{api.Con{Kind: api.ConTab, Vars: []int{0}}, "tab x :"},
		{api.Con{Kind: api.ConTab, Vars: []int{2}, Rows: [][]int{{-2}}}, "tab z : -2"},
		{api.Con{Kind: api.ConTab, Vars: []int{0, 1}, Rows: [][]int{{1, 0}}}, "tab x y_1 : 1 0"},
		{api.Con{Kind: api.ConTab, Vars: []int{0, 1}, Rows: [][]int{{1, 0}, {-2, 1}, {0, 0}}}, "tab x y_1 : 1 0 ; -2 1 ; 0 0"},
		{api.Con{Kind: api.ConTab, Vars: []int{0}, Rows: [][]int{{1, 2}, {3}, {4, 5, 6}, {3}}}, "tab x : 1 2 ; 3 ; 4 5 6 ; 3"},
		{api.Con{Kind: api.ConElem, Vars: []int{0, 2, 1}}, "elem x z y_1"},
		{api.Con{Kind: api.ConElem, Vars: []int{1}}, "elem y_1"},
		{api.Con{Kind: api.ConReif, Vars: []int{0}, Coefs: []int{1}, Op: api.Eq, Rhs: 3, B: 1}, "reif y_1 : 1 x = 3"},
		{api.Con{Kind: api.ConReif, Vars: []int{1, 2}, Coefs: []int{1, -1}, B: 0}, "reif x : 1 y_1 -1 z <= 0"},
		{api.Con{Kind: api.ConReif, Vars: []int{2, 2}, Coefs: []int{0, 6}, Op: api.Ne, Rhs: -8, B: 2}, "reif z : 0 z 6 z != -8"},
		{api.Con{Kind: api.ConClause, Vars: []int{1}, Coefs: []int{1}}, "clause y_1"},
		{api.Con{Kind: api.ConClause, Vars: []int{1}, Coefs: []int{-1}}, "clause -y_1"},
		{api.Con{Kind: api.ConClause, Vars: []int{1, 2, 1}, Coefs: []int{-1, 1, 1}}, "clause -y_1 z y_1"},
		{api.Con{Kind: api.ConLex, Vars: []int{0, 1}}, "lex x : y_1"},
		{api.Con{Kind: api.ConLex, Vars: []int{0, 1, 1, 2}}, "lex x y_1 : y_1 z"},
		{api.Con{Kind: api.ConLex, Vars: []int{2, 2, 2, 2, 2, 0}}, "lex z z z : z z x"},
	}
}

// P5.1, P5.2: each line of a constraint, alone, twice, and ahead of a goal.
func TestConLines(t *testing.T) {
	m, s := api.Model{Vars: places()}, placesText
	for _, x := range conLines() {
		one := api.Model{Vars: places(), Cons: []api.Con{x.c}}
		is(t, one, placesText+x.line+"\n")
		one.Cons = []api.Con{x.c, x.c}
		is(t, one, placesText+x.line+"\n"+x.line+"\n")
		one.Goal = api.Goal{Kind: api.GoalMin, Vars: []int{2}, Coefs: []int{-1}}
		is(t, one, placesText+x.line+"\n"+x.line+"\nmin -1 z\n")
		m.Cons = append(m.Cons, x.c)
		s += x.line + "\n"
	}
	is(t, m, s)
}

// P5.1, P5.2: goals, of one variable and of several, behind constraints and without them.
func TestGoals(t *testing.T) {
	for line, g := range map[string]api.Goal{
		"":                         {},
		"min 1 x\n":                {Kind: api.GoalMin, Vars: []int{0}, Coefs: []int{1}},
		"max 1 x\n":                {Kind: api.GoalMax, Vars: []int{0}, Coefs: []int{1}},
		"max 0 z\n":                {Kind: api.GoalMax, Vars: []int{2}, Coefs: []int{0}},
		"min -3 z 20 y_1\n":        {Kind: api.GoalMin, Vars: []int{2, 1}, Coefs: []int{-3, 20}},
		"max 1 x -1 x 1 x 5 y_1\n": {Kind: api.GoalMax, Vars: []int{0, 0, 0, 1}, Coefs: []int{1, -1, 1, 5}},
	} {
		is(t, api.Model{Vars: places(), Goal: g}, placesText+line)
		is(t, api.Model{Vars: places(), Cons: []api.Con{{Kind: api.ConAll, Vars: []int{0}}}, Goal: g}, placesText+"all x\n"+line)
	}
}

// P5.1, P5.2: variables: none, without ranges, with ranges that are no domain, with names of all lengths.
func TestVars(t *testing.T) {
	is(t, api.Model{}, "")
	is(t, api.Model{Vars: []api.Var{}, Cons: []api.Con{}, Goal: api.Goal{Vars: []int{}, Coefs: []int{}}}, "")
	is(t, api.Model{Vars: []api.Var{{Name: "x"}}}, "var x\n")
	is(t, api.Model{Vars: []api.Var{{Name: "x"}, {Name: "y", D: ranges(1, 1)}, {Name: "x0"}}}, "var x\nvar y 1..1\nvar x0\n")
	is(t, api.Model{Vars: []api.Var{{Name: "x", D: ranges(5, 1, 0, 0, 0, 0, -3, -4)}}}, "var x 5..1 0..0 0..0 -3..-4\n")
	is(t, api.Model{Vars: []api.Var{{Name: "abcdefghijklmnop"}, {Name: "z_________0_0_0_"}}}, "var abcdefghijklmnop\nvar z_________0_0_0_\n")
	// The first words of lines are names, too.
	words := api.Model{Vars: []api.Var{{Name: "var"}, {Name: "lin"}, {Name: "min"}}, Cons: []api.Con{{Kind: api.ConAll, Vars: []int{0, 1, 2}}}, Goal: api.Goal{Kind: api.GoalMin, Vars: []int{2}, Coefs: []int{1}}}
	is(t, words, "var var\nvar lin\nvar min\nall var lin min\nmin 1 min\n")
}

// P5.1, P5.2: more than a right model has.
func TestMoreThanIsRight(t *testing.T) {
	m, s := api.Model{}, ""
	for i := range 3000 {
		name := "a" + strconv.Itoa(i)
		m.Vars = append(m.Vars, api.Var{Name: name, D: ranges(0, i)})
		s += "var " + name + " 0.." + strconv.Itoa(i) + "\n"
	}
	c := api.Con{Kind: api.ConTab, Vars: []int{2999}}
	line := "tab a2999 :"
	for i := range 2000 {
		c.Rows = append(c.Rows, []int{i, -i})
		line += strings.Repeat(" ;", min(i, 1)) + " " + strconv.Itoa(i) + " " + strconv.Itoa(-i)
	}
	m.Cons = []api.Con{c}
	for i := range 600 {
		m.Cons = append(m.Cons, api.Con{Kind: api.ConAll, Vars: []int{i}})
		line += "\nall a" + strconv.Itoa(i)
	}
	is(t, m, s+line+"\n")
}

// numberPlaces are texts with a place for a number each.
func numberPlaces() []string {
	return []string{
		"var x #..1\n", "var x 0..#\n", "var x 0..0 #..1\n", "var x 0..0 1..#\n",
		"var x\nlin # x <= 1\n", "var x\nlin 1 x # x <= 1\n", "var x\nlin 1 x != #\n",
		"var x\nreif x : # x = 1\n", "var x\nreif x : 1 x = #\n",
		"var x\ntab x : #\n", "var x\ntab x : 1 #\n", "var x\ntab x : # ; 1\n", "var x\ntab x : 1 ; #\n", "var x\ntab x : 1 ; # 3 ; 4\n",
		"var x\nmin # x\n", "var x\nmax 1 x # x\n",
	}
}

// P5.1, P5.2: numbers, at all places that have one.
func TestNumbers(t *testing.T) {
	for _, place := range numberPlaces() {
		put := func(n string) string { return strings.Replace(place, "#", n, 1) }
		for _, n := range []int{0, 1, -1, 9, 10, -10, 100, 1 << 20, -1 << 20, 1000000007, 1 << 62, math.MaxInt - 1, math.MaxInt, math.MinInt + 1, math.MinInt, 123456789012345678, -987654321098765432} {
			s := put(big.NewInt(int64(n)).String())
			if p := printed(t, parsed(t, s)); p != s {
				t.Errorf("%q is printed as %q", s, p)
			}
		}
		for _, n := range []string{
			"", "-", "--1", "-0", "00", "01", "-01", "007", "+0", "+1", "-+1", "+-1", "1+", "1-", "0-", "1_0", "1,0", "1.0", "1.", ".1", "0x1", "1e3", "1E1", "0b1", "0o7", "١", "１", "²", "½", "−1", "1\x00", "\xff", "x", "1x", "x1", "1\t", "\t1", "1\r", " 1", "1 ", "1\n",
			"9223372036854775808", "-9223372036854775809", "9223372036854775810", "10000000000000000000", "18446744073709551616", "18446744073709551617", "-18446744073709551615", "99999999999999999999", strings.Repeat("9", 5000), strings.Repeat("0", 5000) + "1", "nil", "inf", "NaN", "..", "1..1", "<=", ":", ";",
		} {
			isNone(t, put(n))
		}
	}
}

// The numbers that are read are those that were written.
func TestNumbersAreWhatTheyAre(t *testing.T) {
	for _, n := range []int{0, 7, -7, 60, math.MaxInt, math.MinInt} {
		s := strconv.Itoa(n)
		is(t, api.Model{Vars: []api.Var{{Name: "x", D: ranges(n, 3, 4, n)}}}, "var x "+s+"..3 4.."+s+"\n")
		is(t, api.Model{
			Vars: []api.Var{{Name: "x"}, {Name: "y"}},
			Cons: []api.Con{
				{Vars: []int{1, 0}, Coefs: []int{n, 2}, Rhs: n},
				{Kind: api.ConReif, Vars: []int{1, 0}, Coefs: []int{2, n}, Rhs: n, B: 1},
				{Kind: api.ConTab, Vars: []int{1}, Rows: [][]int{{n, 1}, {2, n}}},
			},
			Goal: api.Goal{Kind: api.GoalMax, Vars: []int{1, 0}, Coefs: []int{n, 1}},
		}, "var x\nvar y\nlin "+s+" y 2 x <= "+s+"\nreif y : 2 y "+s+" x <= "+s+"\ntab y : "+s+" 1 ; 2 "+s+"\nmax "+s+" y 1 x\n")
	}
}

// P5.2: ends of lines.
func TestEndsOfLines(t *testing.T) {
	const s = "var x 0..1\nall x\nmin 1 x\n"
	parsed(t, s)
	for i := 1; i < len(s); i++ {
		_, e := Parse(s[:i])
		if whole := s[i-1] == '\n'; whole != (e == api.OK) {
			t.Errorf("%q: %v", s[:i], e)
		}
	}
	for _, s := range []string{
		"\n", "\n\n", "var x\n\n", "\nvar x\n", "var x\n\nvar y\n", "var x\nall x\n\n", "var x\n\nall x\n", "var x\nmin 1 x\n\n",
		"var x\r\n", "var x\r", "var x\x00", "var x;", "var x\n\x00", "var x\n ", "var x\n \n", "var x\n# more\n", "\ufeffvar x\n", "var x\u2028", "var x\vvar y\n",
		" ", "  \n", "x", "x\n", "var", "var\n", "all\n", "min\n",
	} {
		isNone(t, s)
	}
}

// P5.2: lines that no text has.
func TestWrongLines(t *testing.T) {
	const ahead = "var x 0..1\nvar y 0..1\n"
	for _, s := range strings.Split(`var
var 
var X
var Z 0..1
var _z
var 1
var -z
var z-
var é
var abcdefghijklmnopq
var z:
var z 0
var z 0.1
var z 0...1
var z 0....1
var z 0..
var z ..1
var z ..
var z 0..1..2
var z 0 ..1
var z 0.. 1
var z 0 .. 1
var z 0..1,2..3
var z 0..1 ;
var z :
var z : 0..1
var z z
var x
var y 0..1
var y
Var z
VAR z
vars z
va z
z
x
1
lin
lin <= 1
lin x <= 1
lin 1 <= 1
lin 1 x
lin 1 x <=
lin 1 x 1
lin 1 x < 1
lin 1 x > 1
lin 1 x >= 1
lin 1 x == 1
lin 1 x <> 1
lin 1 x ! 1
lin 1 x => 1
lin 1 x =< 1
lin 1 x !== 1
lin 1 x <= 1 2
lin 1 x <= 1 =
lin 1 x <= 1 y
lin 1 x = <= 1
lin 1 x <= = 1
lin 1 x y <= 1
lin 1 x 2 <= 1
lin 1 x + 1 y <= 1
lin x 1 <= 1
lin 1 x 1 z <= 1
lin 1 z <= 1
lin 1x <= 1
lin 1 x<= 1
lin 1 x <=1
lin 1 -x <= 1
lin 1 x : <= 1
lin : 1 x <= 1
lin 1 x <= x
lin 1 x <= 1 :
LIN 1 x <= 1
linx 1 x <= 1
all
all :
all z
all x z
all 1
all -x
all x,y
all x : y
all x ;
all X
all all
al x
allx
ALL x
all y_
tab
tab x
tab :
tab : 1
tab x y
tab x 1
tab x : ;
tab x : ; 1
tab x : 1 ;
tab x : 1 ; ; 2
tab x : 1 ;; 2
tab x : 1; 2
tab x : 1 ;2
tab x: 1
tab x :1
tab x : : 1
tab x : 1 : 2
tab x : x
tab x : 1 x
tab x ; 1
tab x : 1 , 2
tab x : 1, 2
tab z : 1
tab x z : 1 2
tab -x : 1
tab 1 : 1
elem
elem z
elem x z
elem x : y
elem 1 x
elem -x
elements x y
reif
reif x
reif x :
reif : 1 x = 1
reif x 1 x = 1
reif x : 1 x = 
reif x : 1 x
reif x : = 1
reif x : x = 1
reif x : 1 x 1
reif x : 1 x = 1 1
reif x : 1 x = x
reif x y : 1 x = 1
reif z : 1 x = 1
reif x : 1 z = 1
reif -x : 1 x = 1
reif 1 : 1 x = 1
reif x: 1 x = 1
reif x ; 1 x = 1
reif x : : 1 x = 1
reif x : 1 x : = 1
reif x : y : 1 x = 1
clause
clause -
clause --x
clause - x
clause -z
clause z
clause x z
clause +x
clause !x
clause x-
clause 1 x
clause -1 x
clause -1
clause x : y
clause x ;
clause :
clause x -
lex
lex :
lex x
lex x x
lex x :
lex : x
lex x : x y
lex x y : x
lex x y x : y
lex x y : x : y
lex x : y :
lex x :: y
lex : x : y
lex x ; y
lex x: y
lex x :y
lex z : x
lex x : z
lex x : 1
lex -x : y
lex x y
lex x y : z x
min
min x
min 1
min 1 z
min 1 x 1
min 1 x x
min 1 x 1 z
min 1 x <= 1
min 1 x = 1
min : 1 x
min 1 -x
min 1x
min 1 x :
min 1 x ;
max
max x
max 1
max x 1
max 1 x y
minimize 1 x
Max 1 x
none
sat
goal 1 x
conlin 1 x <= 1`, "\n") {
		isNone(t, ahead+s+"\n")
		isNone(t, ahead+s)
	}
}

// P5.2: a blank too many or too few, another one than the blank, at each place of each line.
func TestBlanks(t *testing.T) {
	for _, x := range append(conLines(), conLine{line: "min 1 x 2 z"}, conLine{line: "max 1 x"}, conLine{line: "var w 0..1 3..3"}) {
		ahead := placesText
		if strings.HasPrefix(x.line, "var") {
			ahead = "var x\n"
		}
		parsed(t, ahead+x.line+"\n")
		for i := range len(x.line) + 1 {
			two := x.line[:i] + " " + x.line[i:]
			// Elsewhere a blank makes two words of one, which some lines may have.
			if i == 0 || i == len(x.line) || x.line[i-1] == ' ' || x.line[i] == ' ' {
				isNone(t, ahead+two+"\n")
			} else {
				against(t, ahead+two+"\n")
			}
			if i < len(x.line) && x.line[i] == ' ' {
				for _, other := range []string{"\t", "  ", "\n", "\r", "\v", "\u00a0", "\u2003", "\x00", ",", ".", ":"} {
					isNone(t, ahead+x.line[:i]+other+x.line[i+1:]+"\n")
				}
				against(t, ahead+x.line[:i]+x.line[i+1:]+"\n")
			}
		}
	}
}

// P5.2: lines in another order than the text's.
func TestOrderOfLines(t *testing.T) {
	is(t, api.Model{Vars: []api.Var{{Name: "x"}, {Name: "y"}}, Cons: []api.Con{{Kind: api.ConAll, Vars: []int{1}}, {Kind: api.ConElem, Vars: []int{0}}}, Goal: api.Goal{Kind: api.GoalMax, Vars: []int{1}, Coefs: []int{1}}},
		"var x\nvar y\nall y\nelem x\nmax 1 y\n")
	for _, s := range []string{
		"all x\nvar x\n", "min 1 x\nvar x\n", "var x\nall x\nvar y\n", "var x\nall y\nvar y\n", "var x\nmin 1 x\nvar y\n", "var x\nmin 1 x\nall x\n",
		"var x\nmin 1 x\nmin 1 x\n", "var x\nmax 1 x\nmin 1 x\n", "var x\nmin 1 x\nmax 1 x\n", "var x\nmax 1 x\nmax 1 x\n", "var x\nall x\nmin 1 x\nall x\n", "var x\nall x\nmin 1 x\nvar y\n", "var x\nall x\nmax 1 x\nmax 1 x\n",
		"all x\n", "min 1 x\n", "clause x\n", "reif x : 1 x = 1\n",
		"var x\nvar x\n", "var x\nvar y\nvar x\n", "var x\nvar x 0..1\n", "var x 0..1\nvar y\nvar z\nvar y 0..1\n",
	} {
		isNone(t, s)
	}
	lines := strings.SplitAfter(placesText+"lin 1 x = 1\ntab x : 1\nmax 1 z\n", "\n")
	lines = lines[:len(lines)-1]
	for i := range lines {
		for j := range i {
			l := slices.Clone(lines)
			l[i], l[j] = l[j], l[i]
			s := strings.Join(l, "")
			_, e := Parse(s)
			if same := i < 3 && j < 3 || i == 4 && j == 3; same != (e == api.OK) {
				t.Errorf("%q: %v", s, e)
			}
		}
	}
}

// P5.2: a byte that no text has, at each place of a text, put in and in another one's stead.
func TestStrangeBytes(t *testing.T) {
	const s = "var x 0..1\nvar y\nlin 2 x <= 1\nall x y\ntab x : 1 ; 2\nelem x\nreif x : 1 x != 1\nclause -x y\nlex x : y\nmin 1 x\n"
	parsed(t, s)
	for b := range 256 {
		if strings.IndexByte("abcdefghijklmnopqrstuvwxyz0123456789_-.:;<=! \n", byte(b)) >= 0 {
			continue
		}
		strange := string([]byte{byte(b)})
		for i := range len(s) + 1 {
			isNone(t, s[:i]+strange+s[i:])
			if i < len(s) {
				isNone(t, s[:i]+strange+s[i+1:])
			}
		}
	}
}

// P5.1, Shape: what is asked of variables' names.
func TestShapeOfNames(t *testing.T) {
	for _, name := range []string{"", "X", "_", "0", "-x", "x y", " x", "x ", "x\n", "é", "aé", "abcdefghijklmnopq", "x.", "x:", "\xff"} {
		for i := range 3 {
			m := api.Model{Vars: places()}
			m.Vars[i].Name = name
			hasNone(t, m, name)
			isNone(t, strings.Replace(placesText, "y_1", name, 1))
		}
	}
	for i := range 3 {
		for j := range 3 {
			m := api.Model{Vars: places()}
			m.Vars[i].Name = m.Vars[j].Name
			if i != j {
				hasNone(t, m, "twice", i, j)
			}
		}
	}
}

// P5.1, Shape: kinds that there are not.
func TestShapeOfKinds(t *testing.T) {
	for _, kind := range []int{-1, api.ConKinds, api.ConKinds + 1, 100, math.MaxInt, math.MinInt} {
		for _, x := range conLines() {
			x.c.Kind = kind
			hasNone(t, api.Model{Vars: places(), Cons: []api.Con{x.c}}, kind)
		}
		hasNone(t, api.Model{Vars: places(), Cons: []api.Con{{Kind: kind}}}, kind)
	}
	for _, kind := range []int{-1, 3, 4, math.MaxInt, math.MinInt} {
		hasNone(t, api.Model{Vars: places(), Goal: api.Goal{Kind: kind, Vars: []int{0}, Coefs: []int{1}}}, kind)
		hasNone(t, api.Model{Vars: places(), Goal: api.Goal{Kind: kind}}, kind)
	}
}

// P5.1, Shape: variables that there are not, at each place of each constraint and of goals.
func TestShapeOfUnknownVars(t *testing.T) {
	for _, wrong := range []int{-1, 3, 4, 100, math.MaxInt, math.MinInt} {
		for i, x := range conLines() {
			for place := range x.c.Vars {
				c := conLines()[i].c
				c.Vars[place] = wrong
				hasNone(t, api.Model{Vars: places(), Cons: []api.Con{c}}, wrong, x.line, place)
			}
			c := x.c
			c.B = wrong
			hasNone(t, api.Model{Vars: places(), Cons: []api.Con{c}}, wrong, x.line, "B")
		}
		for _, kind := range []int{api.GoalMin, api.GoalMax} {
			for place := range 3 {
				g := api.Goal{Kind: kind, Vars: []int{0, 1, 2}, Coefs: []int{1, 1, 1}}
				g.Vars[place] = wrong
				hasNone(t, api.Model{Vars: places(), Goal: g}, wrong, place)
			}
		}
	}
	for _, x := range conLines() {
		hasNone(t, api.Model{Cons: []api.Con{x.c}}, "no variables")
	}
	// The last one that there is, and B at both ends.
	is(t, api.Model{Vars: places(), Cons: []api.Con{{Kind: api.ConReif, Vars: []int{2}, Coefs: []int{1}, B: 2}, {Kind: api.ConReif, Vars: []int{0}, Coefs: []int{1}, B: 0}}}, placesText+"reif z : 1 z <= 0\nreif x : 1 x <= 0\n")
}

// P5.1, Shape: how many numbers there are, how many variables, how a sum is held.
func TestShapeOfSums(t *testing.T) {
	for _, kind := range []int{api.ConLin, api.ConReif, api.ConClause} {
		one := func(c api.Con) api.Model { c.Kind = kind; return api.Model{Vars: places(), Cons: []api.Con{c}} }
		hasNone(t, one(api.Con{}), kind, "nothing")
		hasNone(t, one(api.Con{Vars: []int{}, Coefs: []int{}}), kind, "nothing")
		hasNone(t, one(api.Con{Vars: []int{0}}), kind)
		hasNone(t, one(api.Con{Coefs: []int{1}}), kind)
		hasNone(t, one(api.Con{Vars: []int{0, 1}, Coefs: []int{1}}), kind)
		hasNone(t, one(api.Con{Vars: []int{0}, Coefs: []int{1, 1}}), kind)
		hasNone(t, one(api.Con{Vars: []int{0, 1, 2}, Coefs: []int{1, 1}}), kind)
		for _, op := range []int{-1, api.Ops, 100, math.MaxInt, math.MinInt} {
			hasNone(t, one(api.Con{Vars: []int{0}, Coefs: []int{1}, Op: op}), kind, op)
		}
	}
	for _, kind := range []int{api.GoalMin, api.GoalMax} {
		one := func(vars, coefs []int) api.Model {
			return api.Model{Vars: places(), Goal: api.Goal{Kind: kind, Vars: vars, Coefs: coefs}}
		}
		hasNone(t, one(nil, nil), kind, "nothing")
		hasNone(t, one([]int{}, []int{}), kind, "nothing")
		hasNone(t, one([]int{0}, nil), kind)
		hasNone(t, one(nil, []int{1}), kind)
		hasNone(t, one([]int{0, 1}, []int{1}), kind)
		hasNone(t, one([]int{0}, []int{1, 1}), kind)
	}
	for _, a := range []int{0, 2, -2, 3, math.MaxInt, math.MinInt} {
		for place := range 3 {
			c := api.Con{Kind: api.ConClause, Vars: []int{0, 1, 2}, Coefs: []int{1, -1, 1}}
			c.Coefs[place] = a
			hasNone(t, api.Model{Vars: places(), Cons: []api.Con{c}}, "clause", a)
		}
	}
}

// P5.1, Shape: lists that are too short, or of which there is no half.
func TestShapeOfLists(t *testing.T) {
	one := func(c api.Con) api.Model { return api.Model{Vars: places(), Cons: []api.Con{c}} }
	for kind := range api.ConKinds {
		hasNone(t, one(api.Con{Kind: kind}), kind, "no variables")
		hasNone(t, one(api.Con{Kind: kind, Vars: []int{}}), kind, "no variables")
		hasNone(t, one(api.Con{Kind: kind, Rows: [][]int{{1}}}), kind, "no variables")
	}
	for n := range 9 {
		c := api.Con{Kind: api.ConLex, Vars: make([]int, n)}
		if n > 0 && n%2 == 0 {
			is(t, one(c), placesText+"lex"+strings.Repeat(" x", n/2)+" :"+strings.Repeat(" x", n/2)+"\n")
		} else {
			hasNone(t, one(c), "lex", n)
		}
	}
	for _, rows := range [][][]int{{{}}, {nil}, {{1}, {}}, {{}, {1}}, {{1}, nil, {1}}, {{}, {}}} {
		hasNone(t, one(api.Con{Kind: api.ConTab, Vars: []int{0}, Rows: rows}), rows)
	}
}

// toldOf are the fields that a kind's line tells, a letter each: T are the rows, R is Rhs.
func toldOf(kind int) string {
	switch kind {
	case api.ConLin:
		return "VCOR"
	case api.ConAll, api.ConElem, api.ConLex:
		return "V"
	case api.ConTab:
		return "VT"
	case api.ConReif:
		return "VCORB"
	case api.ConClause:
		return "VC"
	}
	return ""
}

// P5.1, Shape: each kind with each field that its line does not tell; what is empty there is nothing.
func TestShapeOfFields(t *testing.T) {
	for _, x := range conLines() {
		for field, fills := range map[string][]func(c *api.Con){
			"C": {func(c *api.Con) { c.Coefs = []int{0} }, func(c *api.Con) { c.Coefs = slices.Repeat([]int{1}, len(c.Vars)) }},
			"O": {func(c *api.Con) { c.Op = api.Eq }, func(c *api.Con) { c.Op = api.Ne }, func(c *api.Con) { c.Op = -1 }},
			"R": {func(c *api.Con) { c.Rhs = 1 }, func(c *api.Con) { c.Rhs = -1 }, func(c *api.Con) { c.Rhs = math.MinInt }},
			"T": {func(c *api.Con) { c.Rows = [][]int{{1}} }, func(c *api.Con) { c.Rows = [][]int{nil} }, func(c *api.Con) { c.Rows = [][]int{{}, {}} }},
			"B": {func(c *api.Con) { c.B = 1 }, func(c *api.Con) { c.B = 2 }, func(c *api.Con) { c.B = -1 }},
		} {
			for i, fill := range fills {
				c := x.c
				fill(&c)
				if !strings.Contains(toldOf(c.Kind), field) {
					hasNone(t, api.Model{Vars: places(), Cons: []api.Con{c}}, x.line, field, i)
				}
			}
		}
		c := x.c
		c.Coefs, c.Rows = append([]int{}, c.Coefs...), append([][]int{}, c.Rows...)
		is(t, api.Model{Vars: places(), Cons: []api.Con{c}, Goal: api.Goal{Vars: []int{}, Coefs: []int{}}}, placesText+x.line+"\n")
	}
	for _, g := range []api.Goal{{Vars: []int{0}}, {Coefs: []int{1}}, {Coefs: []int{0}}, {Vars: []int{0}, Coefs: []int{1}}, {Vars: []int{7}}} {
		hasNone(t, api.Model{Vars: places(), Goal: g}, g)
		hasNone(t, api.Model{Goal: g}, g)
	}
}

// Shape: one thing that is wrong is enough, wherever it stands.
func TestShapeOfAll(t *testing.T) {
	for i := range conLines() {
		m := api.Model{Vars: places()}
		for _, x := range conLines() {
			m.Cons = append(m.Cons, x.c)
		}
		if !Shape(m) {
			t.Fatal("the whole")
		}
		m.Cons[i].Rows = [][]int{{}}
		hasNone(t, m, i)
	}
}

// What the document says of a text, once more, as patterns.
const (
	anyNumber = `(?:0|-?[1-9][0-9]*)`
	anyName   = `[a-z][a-z0-9_]{0,15}`
	anySum    = anyNumber + ` ` + anyName + `(?: ` + anyNumber + ` ` + anyName + `)*`
	anyHeld   = anySum + ` (?:<=|=|!=) ` + anyNumber
	anyRow    = `(?: ` + anyNumber + `)+`
	anyNames  = `(?: ` + anyName + `)+`
)

var (
	varLine  = regexp.MustCompile(`^var ` + anyName + `(?: ` + anyNumber + `\.\.` + anyNumber + `)*$`)
	conLike  = regexp.MustCompile(`^(?:lin ` + anyHeld + `|all` + anyNames + `|tab` + anyNames + ` :(?:` + anyRow + `(?: ;` + anyRow + `)*)?|elem` + anyNames + `|reif ` + anyName + ` : ` + anyHeld + `|clause(?: -?` + anyName + `)+|lex` + anyNames + ` :` + anyNames + `)$`)
	goalLine = regexp.MustCompile(`^(?:min|max) ` + anySum + `$`)
	nameWord = regexp.MustCompile(`^` + anyName + `$`)
)

// isText is the slow way to tell whether there is a model whose text it is.
func isText(s string) bool {
	if s == "" {
		return true
	}
	if !strings.HasSuffix(s, "\n") {
		return false
	}
	names := map[string]bool{}
	stage := 0
	for _, line := range strings.Split(strings.TrimSuffix(s, "\n"), "\n") {
		words := strings.Split(line, " ")
		switch {
		case varLine.MatchString(line):
			if stage > 0 || names[words[1]] {
				return false
			}
			names[words[1]] = true
		case conLike.MatchString(line):
			if stage > 1 {
				return false
			}
			stage = 1
		case goalLine.MatchString(line):
			if stage > 1 {
				return false
			}
			stage = 2
		default:
			return false
		}
		if !wordsAreKnown(words, names) {
			return false
		}
	}
	return true
}

// wordsAreKnown tells whether a line's names are known, its numbers are ints, and its halves, if it has such, are equal.
func wordsAreKnown(words []string, names map[string]bool) bool {
	for _, w := range words[1:] {
		for _, part := range strings.Split(w, "..") {
			if n, ok := new(big.Int).SetString(part, 10); ok && !n.IsInt64() {
				return false
			}
		}
		if w = strings.TrimPrefix(w, "-"); nameWord.MatchString(w) && !names[w] {
			return false
		}
	}
	return words[0] != "lex" || 2*slices.Index(words, ":") == len(words)
}

// slowPrint is the slow way to a text of a model that has one.
func slowPrint(m api.Model) string {
	num := func(n int) string { return big.NewInt(int64(n)).String() }
	name := func(v int) string { return m.Vars[v].Name }
	names := func(l []int) (s string) {
		for _, v := range l {
			s += " " + name(v)
		}
		return s
	}
	sum := func(vars, coefs []int) (s string) {
		for i := range vars {
			if i > 0 {
				s += " "
			}
			s += num(coefs[i]) + " " + name(vars[i])
		}
		return s
	}
	held := func(c api.Con) string {
		return sum(c.Vars, c.Coefs) + " " + strings.Fields("<= = !=")[c.Op] + " " + num(c.Rhs)
	}
	s := ""
	for _, v := range m.Vars {
		s += "var " + v.Name
		for _, r := range v.D {
			s += " " + num(r.Lo) + ".." + num(r.Hi)
		}
		s += "\n"
	}
	for _, c := range m.Cons {
		half := len(c.Vars) / 2
		switch c.Kind {
		case api.ConLin:
			s += "lin " + held(c)
		case api.ConAll:
			s += "all" + names(c.Vars)
		case api.ConTab:
			s += "tab" + names(c.Vars) + " :"
			for i, row := range c.Rows {
				if i > 0 {
					s += " ;"
				}
				for _, n := range row {
					s += " " + num(n)
				}
			}
		case api.ConElem:
			s += "elem" + names(c.Vars)
		case api.ConReif:
			s += "reif " + name(c.B) + " : " + held(c)
		case api.ConClause:
			s += "clause"
			for i, v := range c.Vars {
				s += map[int]string{1: " ", -1: " -"}[c.Coefs[i]] + name(v)
			}
		case api.ConLex:
			s += "lex" + names(c.Vars[:half]) + " :" + names(c.Vars[half:])
		}
		s += "\n"
	}
	if m.Goal.Kind > 0 {
		s += strings.Fields("none min max")[m.Goal.Kind] + " " + sum(m.Goal.Vars, m.Goal.Coefs) + "\n"
	}
	return s
}

// slowShape is the slow way to tell whether a model has a text.
func slowShape(m api.Model) bool {
	known := func(l ...int) bool {
		for _, v := range l {
			if v < 0 || v >= len(m.Vars) {
				return false
			}
		}
		return true
	}
	sum := func(vars, coefs []int) bool { return len(vars) >= 1 && len(vars) == len(coefs) && known(vars...) }
	for i, v := range m.Vars {
		if !nameWord.MatchString(v.Name) {
			return false
		}
		for _, w := range m.Vars[:i] {
			if v.Name == w.Name {
				return false
			}
		}
	}
	for _, c := range m.Cons {
		told := toldOf(c.Kind)
		empty := map[string]bool{"V": len(c.Vars) == 0, "C": len(c.Coefs) == 0, "O": c.Op == 0, "R": c.Rhs == 0, "T": len(c.Rows) == 0, "B": c.B == 0}
		for field, is := range empty {
			if !is && !strings.Contains(told, field) {
				return false
			}
		}
		if !known(c.Vars...) || len(c.Vars) < 1 || strings.Contains(told, "C") && !sum(c.Vars, c.Coefs) || strings.Contains(told, "O") && c.Op != api.Le && c.Op != api.Eq && c.Op != api.Ne {
			return false
		}
		if c.Kind == api.ConReif && !known(c.B) || c.Kind == api.ConLex && (len(c.Vars) < 2 || len(c.Vars)%2 == 1) {
			return false
		}
		for _, a := range c.Coefs {
			if c.Kind == api.ConClause && a*a != 1 {
				return false
			}
		}
		for _, row := range c.Rows {
			if len(row) == 0 {
				return false
			}
		}
	}
	if m.Goal.Kind == api.GoalNone {
		return len(m.Goal.Vars)+len(m.Goal.Coefs) == 0
	}
	return (m.Goal.Kind == api.GoalMin || m.Goal.Kind == api.GoalMax) && sum(m.Goal.Vars, m.Goal.Coefs)
}

// someNumber is a number, seldom a great one.
func (r *dice) someNumber() int {
	if r.next(12) == 0 {
		return r.of(math.MaxInt, math.MinInt, 1<<62, -1<<20, 1<<20, 1234567890)
	}
	return r.next(25) - 12
}

func (r *dice) someNumbers(n int) []int {
	var l []int
	for range n {
		l = append(l, r.someNumber())
	}
	return l
}

// someModel has a text.
func someModel(r *dice) api.Model {
	var m api.Model
	stems := []string{"x", "y_", "lin", "abcdefghijklmn", "a_0_", "min"}
	n := r.next(5)
	for i := range n {
		v := api.Var{Name: stems[r.next(len(stems))] + strconv.Itoa(i)}
		for range r.next(4) {
			v.D = append(v.D, api.Range{Lo: r.someNumber(), Hi: r.someNumber()})
		}
		m.Vars = append(m.Vars, v)
	}
	if n == 0 {
		return m
	}
	someVars := func(k int) []int {
		var l []int
		for range k {
			l = append(l, r.next(n))
		}
		return l
	}
	for range r.next(6) {
		c := api.Con{Kind: r.next(api.ConKinds), Vars: someVars(1 + r.next(4))}
		switch c.Kind {
		case api.ConLin, api.ConReif:
			c.Coefs, c.Op, c.Rhs = r.someNumbers(len(c.Vars)), r.next(api.Ops), r.someNumber()
			if c.Kind == api.ConReif {
				c.B = r.next(n)
			}
		case api.ConTab:
			for range r.next(4) {
				c.Rows = append(c.Rows, r.someNumbers(1+r.next(3)))
			}
		case api.ConClause:
			for range c.Vars {
				c.Coefs = append(c.Coefs, r.of(1, -1))
			}
		case api.ConLex:
			c.Vars = someVars(2 + 2*r.next(3))
		}
		m.Cons = append(m.Cons, c)
	}
	if kind := r.next(3); kind != api.GoalNone {
		k := 1 + r.next(3)
		m.Goal = api.Goal{Kind: kind, Vars: someVars(k), Coefs: r.someNumbers(k)}
	}
	return m
}

// spoilt is a model after some changes, by which it may have no text any more.
func spoilt(r *dice, m api.Model) api.Model {
	if len(m.Vars) > 0 && r.next(6) == 0 {
		m.Vars[r.next(len(m.Vars))].Name = []string{"", "X", "x0", "x1", "1x", "y_0", "x y"}[r.next(7)]
	}
	if len(m.Cons) > 0 {
		c := &m.Cons[r.next(len(m.Cons))]
		switch r.next(10) {
		case 0:
			c.Kind = r.next(api.ConKinds+3) - 1
		case 1:
			c.Vars = r.list(4, 0, 0, 1, 1, 2, 3, -1)
		case 2:
			c.Coefs = r.list(4, 1, -1, 0, 2)
		case 3:
			c.Op = r.next(6) - 1
		case 4:
			c.Rhs = r.next(3)
		case 5:
			c.Rows = append(c.Rows, r.list(2, 0, 1))
		case 6:
			c.Rows = nil
		case 7:
			c.B = r.next(5) - 1
		}
	}
	switch r.next(8) {
	case 0:
		m.Goal.Kind = r.next(5) - 1
	case 1:
		m.Goal.Vars = r.list(3, 0, 1, 2, -1)
	case 2:
		m.Goal.Coefs = r.list(3, 0, 1, 2)
	}
	return m
}

// P5.1, P5.3: models that look like chance: what is printed is what the slow way prints, and is parsed as it was; no two have one text.
func TestPrintedIsParsed(t *testing.T) {
	r := dice(5)
	texts := map[string]api.Model{}
	var kinds [api.ConKinds]int
	for range 20000 {
		m := someModel(&r)
		s := printed(t, m)
		if s != slowPrint(m) || !isText(s) {
			t.Fatalf("%q, %q", s, slowPrint(m))
		}
		if p := parsed(t, s); !model.Same(p, m) {
			t.Fatalf("%q: %+v, %+v", s, p, m)
		}
		if other, there := texts[s]; there && !model.Same(other, m) {
			t.Fatalf("%q: %+v, %+v", s, other, m)
		}
		texts[s] = m
		for _, c := range m.Cons {
			kinds[c.Kind]++
		}
	}
	for kind, n := range kinds {
		if n < 1000 {
			t.Error("seldom met", kind, n)
		}
	}
}

// P5.1, Shape: spoilt models, against the slow way.
func TestShapeOfMany(t *testing.T) {
	r := dice(55)
	var met [2]int
	for range 100000 {
		m := someModel(&r)
		for range 1 + r.next(2) {
			m = spoilt(&r, m)
		}
		want := slowShape(m)
		if Shape(m) != want {
			t.Fatalf("%+v: %v", m, !want)
		}
		s, e := Print(m)
		if want {
			met[0]++
			if s != slowPrint(m) || e != api.OK {
				t.Fatalf("%+v: %q, %v", m, s, e)
			}
			continue
		}
		met[1]++
		if s != "" || e != api.ErrTextForm {
			t.Fatalf("%+v: %q, %v", m, s, e)
		}
	}
	if met[0] < 20000 || met[1] < 20000 {
		t.Error("seldom met", met)
	}
}

// against holds Parse against the slow way, and tells whether it is a text.
func against(t *testing.T, s string) bool {
	t.Helper()
	m, e := Parse(s)
	if !isText(s) {
		if e != api.ErrTextForm || !reflect.DeepEqual(m, api.Model{}) {
			t.Fatalf("%q: %+v, %v", s, m, e)
		}
		return false
	}
	if e != api.OK || !slowShape(m) {
		t.Fatalf("%q: %+v, %v", s, m, e)
	}
	if p, e := Print(m); p != s || e != api.OK || slowPrint(m) != s {
		t.Fatalf("%q: %q, %v", s, p, e)
	}
	return true
}

// bent is a text with a change or two: of bytes, of words, of lines.
func bent(r *dice, s string) string {
	const bytes = " \n.:;-+<=!0123456789abxyz_XZ\t\r\x00\xff"
	cut := func(sep string) string {
		l := strings.Split(s, sep)
		i, j := r.next(len(l)), r.next(len(l))
		switch r.next(3) {
		case 0:
			l[i], l[j] = l[j], l[i]
		case 1:
			l = slices.Insert(l, i, l[j])
		case 2:
			l = slices.Delete(l, i, i+1)
		}
		return strings.Join(l, sep)
	}
	for range 1 + r.next(2) {
		i := r.next(len(s) + 1)
		b := string(bytes[r.next(len(bytes))])
		switch r.next(6) {
		case 0:
			s = s[:i] + b + s[i:]
		case 1:
			s = s[:i] + s[min(i+1, len(s)):]
		case 2:
			s = s[:i] + b + s[min(i+1, len(s)):]
		case 3:
			s = cut(" ")
		case 4:
			s = cut("\n")
		case 5:
			words := strings.Fields(s + " x")
			l := strings.Split(s, " ")
			l[r.next(len(l))] = words[r.next(len(words))]
			s = strings.Join(l, " ")
		}
	}
	return s
}

// P5.2, P5.3: texts with changes, against the slow way.
func TestBentTexts(t *testing.T) {
	r := dice(50)
	var met [2]int
	for range 60000 {
		s := bent(&r, printed(t, someModel(&r)))
		if against(t, s) {
			met[0]++
		} else {
			met[1]++
		}
	}
	if met[0] < 5000 || met[1] < 20000 {
		t.Error("seldom met", met)
	}
}

// P5.2, P5.3: all short lines of some words, against the slow way.
func TestAllShortLines(t *testing.T) {
	words := []string{"x", "y", "1", "-1", "-x", ":", ";", "<="}
	var met [2]int
	var grow func(line string, left int)
	grow = func(line string, left int) {
		if against(t, "var x\nvar y 0..1\n"+line+"\n") {
			met[0]++
		} else {
			met[1]++
		}
		for _, w := range words {
			if left > 0 {
				grow(line+" "+w, left-1)
			}
		}
	}
	for _, first := range []string{"lin", "all", "tab", "elem", "reif", "clause", "lex", "min", "max", "var z", ""} {
		grow(first, 4)
	}
	grow("reif x : 1 y", 3)
	grow("lin 1 x -1 y", 4)
	grow("tab x : 1", 5)
	grow("lex x y", 5)
	if met[0] < 400 || met[1] < 20000 {
		t.Error("seldom met", met)
	}
}

// rightModel is a model that model.Check finds right.
func rightModel(r *dice) api.Model {
	m := api.Model{Vars: places()}
	for i := range 3 {
		m.Vars = append(m.Vars, api.Var{Name: "b" + strconv.Itoa(i), D: ranges(0, r.next(2))})
	}
	for range 60 {
		c := api.Con{Kind: r.next(api.ConKinds), Vars: r.list(4, 0, 1, 2, 3, 4, 5)}
		switch c.Kind {
		case api.ConLin, api.ConReif, api.ConClause:
			for range c.Vars {
				c.Coefs = append(c.Coefs, r.of(1, -1))
			}
		case api.ConTab:
			c.Rows = [][]int{slices.Repeat([]int{r.next(3)}, len(c.Vars))}
		}
		if c.Kind == api.ConReif {
			c.B, c.Rhs = r.next(6), r.next(9)
		}
		if model.Con(model.Doms(m), c) == api.OK {
			m.Cons = append(m.Cons, c)
		}
	}
	if v := r.list(1, 0, 1, 2, 3, 4, 5); len(v) > 0 {
		m.Goal = api.Goal{Kind: r.of(api.GoalMin, api.GoalMax), Vars: v, Coefs: []int{1}}
	}
	return m
}

// P5.3: each right model has a text, and comes back of it right.
func TestRightModelsHaveTexts(t *testing.T) {
	r := dice(53)
	for range 500 {
		m := rightModel(&r)
		if e := model.Check(m); e != api.OK || !Shape(m) {
			t.Fatal(m, e)
		}
		p := parsed(t, printed(t, m))
		if !model.Same(p, m) || model.Check(p) != api.OK {
			t.Fatal(m, p)
		}
	}
	// One that is not right has a text, too, and stays as it is.
	for s, want := range map[string]api.Errno{
		"var x\n": api.ErrModelDom, "var x 5..1\n": api.ErrModelDom, "var x 0..1\nall x x\n": api.ErrModelForm, "var x 0..1\nlin 0 x = 1\n": api.ErrModelForm,
		"var x 0..1\ntab x : 1 2\n": api.ErrModelForm, "var x 0..1\nelem x\n": api.ErrModelForm, "var x 0..1\nmin 9223372036854775807 x\n": api.ErrModelBig,
		"var x 0..1\n" + strings.Repeat("all x\n", 257): api.ErrBig,
	} {
		m := parsed(t, s)
		if model.Check(m) != want || printed(t, m) != s {
			t.Error(s, model.Check(m))
		}
	}
}

// The chapter's example, and the document's seventh.
func TestExamples(t *testing.T) {
	is(t, api.Model{
		Vars: []api.Var{{Name: "x", D: ranges(0, 3)}, {Name: "y", D: ranges(0, 1)}},
		Cons: []api.Con{{Kind: api.ConLin, Vars: []int{0, 1}, Coefs: []int{2, -1}, Op: api.Le, Rhs: 5}},
		Goal: api.Goal{Kind: api.GoalMin, Vars: []int{0}, Coefs: []int{1}},
	}, "var x 0..3\nvar y 0..1\nlin 2 x -1 y <= 5\nmin 1 x\n")
	isNone(t, "min 1 x\n")
	isNone(t, "min 1 x")
}

// spare is how much room stands behind each list of a roomy model.
const spare = 3

// roomy puts a list into memory with room behind it, in which something stands.
func roomy[T any](l []T, mark T) []T {
	return append(append(make([]T, 0, len(l)+spare), l...), slices.Repeat([]T{mark}, spare)...)[:len(l)]
}

// roomyModel is a model all of whose lists have room behind them.
func roomyModel(m api.Model) api.Model {
	vars, cons := []api.Var{}, []api.Con{}
	for _, v := range m.Vars {
		vars = append(vars, api.Var{Name: v.Name, D: roomy(v.D, api.Range{Lo: 77, Hi: 77})})
	}
	for _, c := range m.Cons {
		rows := [][]int{}
		for _, r := range c.Rows {
			rows = append(rows, roomy(r, 77))
		}
		c.Vars, c.Coefs, c.Rows = roomy(c.Vars, 77), roomy(c.Coefs, 77), roomy(rows, []int{77})
		cons = append(cons, c)
	}
	return api.Model{
		Vars: roomy(vars, api.Var{Name: "spare", D: ranges(7, 7)}),
		Cons: roomy(cons, api.Con{Kind: 77, Vars: []int{77}}),
		Goal: api.Goal{Kind: m.Goal.Kind, Vars: roomy(m.Goal.Vars, 77), Coefs: roomy(m.Goal.Coefs, 77)},
	}
}

// to is a list up to the end of its room.
func to[T any](l []T) []T { return l[:cap(l)] }

// laidOpen is a model with the room behind its lists as a part of them.
func laidOpen(m api.Model) api.Model {
	open := api.Model{Goal: api.Goal{Kind: m.Goal.Kind, Vars: to(m.Goal.Vars), Coefs: to(m.Goal.Coefs)}}
	for _, v := range to(m.Vars) {
		open.Vars = append(open.Vars, api.Var{Name: v.Name, D: to(v.D)})
	}
	for _, c := range to(m.Cons) {
		rows := [][]int{}
		for _, r := range to(c.Rows) {
			rows = append(rows, to(r))
		}
		c.Vars, c.Coefs, c.Rows = to(c.Vars), to(c.Coefs), rows
		open.Cons = append(open.Cons, c)
	}
	return open
}

// R4: no call changes what it is handed, nor the room behind it.
func TestHandedInStays(t *testing.T) {
	r := dice(9)
	for range 3000 {
		plain := someModel(&r)
		if r.next(3) == 0 {
			plain = spoilt(&r, plain)
		}
		m, was := roomyModel(plain), laidOpen(roomyModel(plain))
		Shape(m)
		s, e := Print(m)
		if !reflect.DeepEqual(laidOpen(m), was) {
			t.Fatal("changed", m)
		}
		// What was handed in may be changed by its owner, and what was told stays.
		for i := range m.Vars {
			m.Vars[i].Name = "gone"
		}
		if e == api.OK && s != slowPrint(plain) {
			t.Fatalf("%q", s)
		}
	}
}

// numberLists are all lists of numbers of a model.
func numberLists(m api.Model) [][]int {
	l := [][]int{m.Goal.Vars, m.Goal.Coefs}
	for _, c := range m.Cons {
		l = append(append(l, c.Vars, c.Coefs), c.Rows...)
	}
	return l
}

// R4: each list of an answer is written over to the end of its room, and no other one is changed by that, nor a later answer.
func TestListsOfAnAnswer(t *testing.T) {
	s := placesText
	for _, x := range conLines() {
		s += x.line + "\n"
	}
	s += "max 1 x 1 y_1 2 z\n"
	want := parsed(t, s)
	for i := range numberLists(want) {
		m := parsed(t, s)
		l := numberLists(m)
		for k := range to(l[i]) {
			to(l[i])[k] = -99
		}
		for j, other := range numberLists(want) {
			if j != i && !slices.Equal(l[j], other) {
				t.Error("numbers", i, j)
			}
		}
	}
	for i := range want.Vars {
		m := parsed(t, s)
		for k := range to(m.Vars[i].D) {
			to(m.Vars[i].D)[k] = api.Range{Lo: -99, Hi: -99}
		}
		for j, v := range want.Vars {
			if j != i && !slices.Equal(m.Vars[j].D, v.D) {
				t.Error("ranges", i, j)
			}
		}
	}
	for i := range want.Cons {
		m := parsed(t, s)
		for k := range to(m.Cons[i].Rows) {
			to(m.Cons[i].Rows)[k] = nil
		}
		for j, c := range want.Cons {
			if j != i && !slices.EqualFunc(m.Cons[j].Rows, c.Rows, slices.Equal) {
				t.Error("rows", i, j)
			}
		}
	}
	if !model.Same(want, parsed(t, s)) || printed(t, want) != s {
		t.Error("a later answer is another one")
	}
}

// R4: a name that is told is no piece of the text that was handed in.
func TestNamesAreNew(t *testing.T) {
	s := strings.Clone(placesText)
	from := uintptr(unsafe.Pointer(unsafe.StringData(s)))
	for _, v := range parsed(t, s).Vars {
		if at := uintptr(unsafe.Pointer(unsafe.StringData(v.Name))); from <= at && at < from+uintptr(len(s)) {
			t.Error("a piece of the text", v.Name)
		}
	}
}

// R1: much of one thing ends soon, whether it is right or not.
func TestMuch(t *testing.T) {
	const n = 1 << 18
	for _, s := range []string{"all" + strings.Repeat(" x", n), "tab x :" + strings.Repeat(" 1 ;", n) + " 1", "lin" + strings.Repeat(" 1 x", n) + " = 1", "clause" + strings.Repeat(" -x", n), "lex" + strings.Repeat(" x", n) + " :" + strings.Repeat(" x", n), strings.Repeat("all x\n", n) + "min 1 x"} {
		s = "var x 0..1\n" + s + "\n"
		if printed(t, parsed(t, s)) != s {
			t.Error(s[:30])
		}
		isNone(t, s[:len(s)-1])
		isNone(t, s+"var x\n")
	}
	var names strings.Builder
	for i := range n {
		names.WriteString("var a" + strconv.Itoa(i) + "\n")
	}
	m := parsed(t, names.String())
	if printed(t, m) != names.String() {
		t.Error("names")
	}
	m.Vars[len(m.Vars)-1].Name = m.Vars[0].Name
	hasNone(t, m, "twice")
	for _, s := range []string{strings.Repeat(" ", n), strings.Repeat("\n", n), strings.Repeat("a", n), strings.Repeat("9", n), "var x " + strings.Repeat("9", n) + "..1\n", "var " + strings.Repeat("x", n) + "\n", "var x" + strings.Repeat(" ", n) + "\n", "var x\nclause " + strings.Repeat("-", n) + "x\n"} {
		isNone(t, s)
	}
}

// R5: the same answer each time, whatever was asked between.
func TestAnswersAgain(t *testing.T) {
	r := dice(7)
	for range 300 {
		m := someModel(&r)
		s := printed(t, m)
		isNone(t, s+"x")
		hasNone(t, api.Model{Goal: api.Goal{Kind: 7}})
		if !model.Same(parsed(t, s), m) || printed(t, m) != s || !Shape(m) {
			t.Fatalf("%q", s)
		}
	}
}
