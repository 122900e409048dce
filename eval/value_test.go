package eval_test

import (
	"maps"
	"reflect"
	"strconv"
	"strings"
	"testing"

	"palimpsest/api"
	"palimpsest/eval"
)

// given is the expression of a text that must be one, of whatever type.
func given(t *testing.T, text string) api.Expr {
	t.Helper()
	return parsed(t, "op o(){give "+text+";}").Give[0]
}

// valued is what Value answers, which is a number or ErrCode and never both.
func valued(t *testing.T, e api.Expr, p api.Page, names map[string]int) (int, bool) {
	t.Helper()
	was := maps.Clone(names)
	value, err := eval.Value(e, p, names)
	if !maps.Equal(was, names) {
		t.Errorf("names %v became %v", was, names)
	}
	if err == nil {
		return value, true
	}
	if code, ok := err.(api.Errno); !ok || code != api.ErrCode || value != 0 {
		t.Errorf("%d with %v", value, err)
	}
	return 0, false
}

// isWorth tells of a text whose value isn't this number.
func isWorth(t *testing.T, text string, want int, p api.Page, names map[string]int) {
	t.Helper()
	if value, ok := valued(t, given(t, text), p, names); !ok || value != want {
		t.Errorf("%q with %v: %d, %v, want %d", text, names, value, ok, want)
	}
}

// worthless tells of an expression that has a value.
func worthless(t *testing.T, e api.Expr, p api.Page, names map[string]int) {
	t.Helper()
	if value, ok := valued(t, e, p, names); ok {
		t.Errorf("%+v with %v: %d", e, names, value)
	}
}

func TestValues(t *testing.T) {
	p := paged(0, 3, 3, 11, 59, -4)
	names := map[string]int{"a": 2, "b": -5, "c": 59, "d": least}
	for text, want := range map[string]int{
		"7": 7, "a": 2, "b": -5, "d": least, "-b": 5, "-d": least, "a+b": -3, "a-b": 7, "a*b": -10, "b/a": -2, "b%a": -1, "a/0": 0, "a%0": 0, "d/-1": least, "d%-1": 0,
		"[0]": 3, "[[0]]": 11, "[c]": -4, "[c+1]": 0, "[b]": 0, "[d]": 0, "[a+1]": 11, "-[c]*[0]": 12,
		"true": 1, "false": 0, "!true": 0, "!false": 1, "a<3": 1, "a<2": 0, "a<=2": 1, "a>2": 0, "a>=2": 1, "a==2": 1, "a!=2": 0, "d<b": 1,
		"true&&true": 1, "true&&false": 0, "false||true": 1, "false||false": 0, "a<3&&!(a==1)": 1, "a<3&&!(a==2)": 0,
	} {
		isWorth(t, text, want, p, names)
	}
	isWorth(t, "1+2*3", 7, p, nil)
	isWorth(t, "1+2*3", 7, p, map[string]int{})
}

// A truth is whatever isn't 0; what comes of one is 1 or 0. Types aren't asked, so each may stand in the other one's place.
func TestOtherTruths(t *testing.T) {
	for _, n := range edges() {
		names := map[string]int{"a": n, "b": 0}
		is, isnt := 1, 0
		if n == 0 {
			is, isnt = 0, 1
		}
		for text, want := range map[string]int{
			"a": n, "!a": isnt, "!!a": is, "a&&true": is, "true&&a": is, "a&&a": is, "a&&b": 0, "b&&a": 0, "a||b": is, "b||a": is, "a||a": is, "a||true": 1,
			"b||b": 0, "!b": 1, "-!a": -isnt, "!-a": isnt, "!(a+b)": isnt, "!a+5": 5 + isnt, "a+true": n + 1, "a*false": 0, "(a<0)+(a>0)": is,
			"true+true": 2, "(true+true)&&true": 1, "-true": -1, "!-true": 0, "true<false": 0, "false<true": 1, "[false]": 100, "[true]": 101, "[!a]": 100 + isnt,
			"![a*0]": 0, "!5": 0, "2&&3": 1, "2&&4": 1, "0||4": 1, "true==1": 1, "false==0": 1, "true==2": 0, "!a==!a": 1, "true/false": 0,
		} {
			isWorth(t, text, want, counted(), names)
		}
	}
}

// True and false stand for themselves, whatever the names say.
func TestTrueAndFalseAreNoNames(t *testing.T) {
	for _, names := range []map[string]int{nil, {}, {"a": 1}, {"true": 0, "false": 1}, {"true": 7, "false": 7}} {
		isWorth(t, "true", 1, paged(), names)
		isWorth(t, "false", 0, paged(), names)
	}
}

// A name that isn't there is told wherever it stands, also where no value hangs on it.
func TestNamesThatArentThere(t *testing.T) {
	for _, text := range []string{
		"x", "-x", "!x", "[x]", "[[x]]", "x+1", "1+x", "x*0", "0*x", "x/0", "0/x", "0%x", "x-x", "x==x", "x||true", "true||x", "x&&false", "false&&x",
		"0<1||x<1", "1<0&&x<1", "a&&(true||(a||x))", "[99]*x", "[60+x*0]", "(true||x)&&false", "a+a+a+a+x", "x+a+a+a+a", "1<x", "A", "aa", "a_", "a0", "True", "TRUE",
	} {
		for _, names := range []map[string]int{nil, {}, {"": 1}, {"a": 1}, {"a": 1, "X": 1, "x_": 1, "xx": 1, "": 1, " x": 1}} {
			worthless(t, given(t, text), counted(), names)
		}
	}
	for _, text := range []string{"x", "[x]", "false&&x", "a+x"} {
		if _, ok := valued(t, given(t, text), counted(), map[string]int{"x": 0, "a": 0}); !ok {
			t.Error(text)
		}
	}
}

// around is an expression, and larger ones that it is a part of, at each place that there is.
func around(e api.Expr) []api.Expr {
	list := []api.Expr{e}
	for _, kind := range []int{api.ECell, api.ENot, api.ENeg} {
		list = append(list, api.Expr{Kind: kind, Args: []api.Expr{e}})
	}
	for _, sign := range []string{"+", "&&", "||", "*", "/", "=="} {
		for n := range 2 {
			leaf := api.Expr{Kind: api.ENumber, Num: n}
			list = append(list, api.Expr{Kind: api.EBinary, Name: sign, Args: []api.Expr{leaf, e}}, api.Expr{Kind: api.EBinary, Name: sign, Args: []api.Expr{e, leaf}})
		}
	}
	return list
}

// Expressions of other forms than layer 7 makes: of other kinds, with other numbers of parts, with signs that are no operators.
func TestOtherForms(t *testing.T) {
	names := map[string]int{"a": 1, "+": 1, "": 1}
	var odd []api.Expr
	leaf := api.Expr{Kind: api.ENumber, Num: 1}
	for kind := -2; kind <= 9; kind++ {
		want := map[int]int{api.ENumber: 0, api.EName: 0, api.ECell: 1, api.ENot: 1, api.ENeg: 1, api.EBinary: 2}
		for count := range 5 {
			parts := make([]api.Expr, count)
			for i := range parts {
				parts[i] = leaf
			}
			e := api.Expr{Kind: kind, Name: "a", Num: 1, Args: parts}
			if kind == api.EBinary {
				e.Name = "+"
			}
			if count, ok := want[kind]; !ok || count != len(parts) {
				odd = append(odd, e)
			} else if value, ok := valued(t, e, counted(), names); !ok {
				t.Errorf("%+v: %d", e, value)
			}
		}
	}
	for _, kind := range []int{least, greatest, 1 << 32, 1<<32 + 1, 257} {
		odd = append(odd, api.Expr{Kind: kind}, api.Expr{Kind: kind, Name: "a", Args: []api.Expr{leaf}})
	}
	for _, sign := range []string{"", "=", "!", "<>", "+=", "-=", "&", "|", "^", "<<", ">>", "&^", "++", "+ ", " +", "**", "//", "===", "and", "a", "true", "..", "(", "[", "~", "÷", "\x00"} {
		for n := range 2 {
			odd = append(odd, api.Expr{Kind: api.EBinary, Name: sign, Args: []api.Expr{leaf, {Kind: api.ENumber, Num: n}}})
		}
	}
	for _, e := range odd {
		for _, whole := range around(e) {
			worthless(t, whole, counted(), names)
		}
	}
}

// chain is an expression of a kind within another one, and so on.
func chain(kind, levels int) api.Expr {
	e := api.Expr{Kind: api.ENumber, Num: 1}
	for range levels {
		e = api.Expr{Kind: kind, Args: []api.Expr{e}}
	}
	return e
}

// ring is an expression that holds itself, so many times.
func ring(kind, times int) api.Expr {
	list := make([]api.Expr, times)
	for i := range list {
		list[i] = api.Expr{Kind: kind, Name: "+", Args: list}
	}
	return list[0]
}

// twice is an expression with two parts that are one, and so on: it has more parts than can be gone over.
func twice(levels int) api.Expr {
	e := api.Expr{Kind: api.ENumber}
	for range levels {
		e = api.Expr{Kind: api.EBinary, Name: "+", Args: []api.Expr{e, e}}
	}
	return e
}

// What has more parts than any text has bytes is of no form that layer 7 makes, and what holds itself or is very deep is told so in time.
func TestEndlessForms(t *testing.T) {
	for kind := -1; kind <= api.EBinary+1; kind++ {
		for _, times := range []int{1, 2, 3, 100000} {
			worthless(t, ring(kind, times), counted(), nil)
		}
		worthless(t, chain(kind, 1000000), counted(), nil)
		worthless(t, api.Expr{Kind: kind, Name: "+", Args: make([]api.Expr, 1000000)}, counted(), nil)
	}
	for levels := 9; levels <= 90; levels++ {
		worthless(t, twice(levels), counted(), nil)
	}
	again := make([]api.Stmt, 1)
	again[0] = api.Stmt{Kind: api.SFor, Name: "i", N: 64, Body: again}
	for _, d := range []api.Def{{Body: again}, {Give: []api.Expr{twice(70)}}, {Needs: []api.Expr{ring(api.ENot, 1)}}, {Give: []api.Expr{chain(api.ENeg, 1000000)}},
		{Body: []api.Stmt{{Kind: api.SLet, Name: "a"}}}, {Body: []api.Stmt{{}}}, {Give: make([]api.Expr, 2)}, {Params: make([]string, 1000000)}} {
		eval.Run(d, counted())
		eval.Run(d, counted(), 1)
	}
}

// The longest and the deepest expressions that a text has.
func TestGreatForms(t *testing.T) {
	ones := strings.Repeat("1+", 231) + "1"
	isWorth(t, ones+"+1", 233, paged(), nil)
	isWorth(t, ones+"+-1", 231, paged(), nil)
	names := map[string]int{"a": 1}
	isWorth(t, strings.Repeat("a*2+", 115)+"a", 231, paged(), names)
	gives(t, "op o(){give "+ones+"+-1;}", paged(), 231)
	isWorth(t, strings.Repeat("-", 11)+"5", -5, paged(), nil)
	isWorth(t, strings.Repeat("[", 11)+"5"+strings.Repeat("]", 11), 7, paged(5, 6, 6, 7, 7, 5), nil)
	isWorth(t, strings.Repeat("1-(", 11)+"a"+strings.Repeat(")", 11), 0, paged(), names)
	isWorth(t, strings.Repeat("!", 11)+"a", 0, paged(), names)
}

// The places of an expression matter for nothing.
func TestPlacesDontMatter(t *testing.T) {
	e := given(t, "[a+1]*-2+3")
	want, _ := valued(t, e, counted(), map[string]int{"a": 1})
	for _, at := range []int{0, -1, least, greatest} {
		e.At, e.Args[0].At, e.Args[1].At = at, at, at
		if got, ok := valued(t, e, counted(), map[string]int{"a": 1}); !ok || got != want || got != -201 {
			t.Error(at, got, ok)
		}
	}
}

// Value of what an operation gives, with its parameters' numbers, is what it gives; what is handed in stays as it was.
func TestValueIsWhatIsGiven(t *testing.T) {
	for _, text := range []string{"a", "-b", "a+b", "a-b", "a*b", "a/b", "a%b", "[a]", "[b]-[a]", "[[a]-100]", "a*[b+1]%7", "-(a-b)*-(b-a)"} {
		text = "op o(a,b){give " + text + ";}"
		d := parsed(t, text)
		for _, a := range edges() {
			for _, b := range edges() {
				got := ran(t, d, counted(), a, b)
				value, ok := valued(t, d.Give[0], counted(), map[string]int{"a": a, "b": b})
				if !ok || got != (outcome{page: counted(), n: value}) {
					t.Errorf("%q of %d and %d: %v, %d", text, a, b, got, value)
				}
			}
		}
		if !reflect.DeepEqual(d, parsed(t, text)) {
			t.Errorf("%q became %+v", text, d)
		}
	}
}

// A name's name doesn't matter, as long as it is there.
func TestAnyNames(t *testing.T) {
	for i, name := range []string{"a", "Z", "a_", "a0", "op_", "needs", "abcdefghijklmnop", "True", "x" + strconv.Itoa(1<<40)} {
		isWorth(t, name+"*2+["+name+"]", i*2+100+i, counted(), map[string]int{name: i})
		gives(t, "op "+name+"("+name+"){give "+name+"*2+["+name+"];}", counted(), i*2+100+i, i)
	}
}
