package value_test

import (
	"math"
	"slices"
	"strings"
	"testing"

	"tailrace/api"
	"tailrace/value"
)

func num(n int64) api.Value { return api.Value{Kind: api.KInt, N: n} }

func text(s string) api.Value { return api.Value{Kind: api.KText, S: s} }

func row(l ...api.Value) []api.Value { return l }

// goodValues rises: each value is less than the next one.
func goodValues() []api.Value {
	return []api.Value{
		num(-api.MaxInt),
		num(-api.MaxInt + 1),
		num(-256),
		num(-1),
		num(0),
		num(1),
		num(9),
		num(10),
		num(api.MaxInt - 1),
		num(api.MaxInt),
		text(""),
		text("\x00"),
		text("\x00\x00"),
		text("\x00a"),
		text("10"),
		text("9"),
		text("B"),
		text("a"),
		text("a\x00"),
		text("ab"),
		text(strings.Repeat("b", api.MaxText-1)),
		text(strings.Repeat("b", api.MaxText)),
		text("\x7f"),
		text("\x80"),
		text("\xc3\xa4"),
		text("\xff"),
		text("\xff\xff"),
	}
}

// badValues are values that may not be.
func badValues() []api.Value {
	return []api.Value{
		{},
		{Kind: -1},
		{Kind: 3},
		{Kind: math.MinInt},
		{Kind: math.MaxInt},
		{Kind: 0, N: 1},
		{Kind: 0, S: "a"},
		{Kind: 3, N: 1, S: "a"},
		{Kind: api.KInt + 256},
		num(api.MaxInt + 1),
		num(-api.MaxInt - 1),
		num(1 << 32),
		num(-1 << 32),
		num(math.MaxInt64),
		num(math.MinInt64),
		{Kind: api.KInt, S: "a"},
		{Kind: api.KInt, N: 5, S: "\x00"},
		{Kind: api.KInt, N: 5, S: strings.Repeat("a", api.MaxText)},
		text(strings.Repeat("a", api.MaxText+1)),
		text(strings.Repeat("\xff", 70000)),
		text(strings.Repeat("\xc3\xa4", api.MaxText/2) + "a"),
		{Kind: api.KText, N: 1},
		{Kind: api.KText, N: -1, S: "a"},
		{Kind: api.KText, N: 1 << 32, S: "a"},
	}
}

// P1.1
func TestCheckTakesValues(t *testing.T) {
	for _, v := range goodValues() {
		if e := value.Check(v); e != api.OK {
			t.Errorf("Check(%v): %d", v, e)
		}
	}
}

// P1.1: bytes count, not characters, and any byte may be.
func TestCheckTakesAnyBytes(t *testing.T) {
	for b := range 256 {
		s := strings.Repeat(string([]byte{byte(b)}), api.MaxText)
		if e := value.Check(text(s)); e != api.OK {
			t.Errorf("Check of %d bytes %d: %d", api.MaxText, b, e)
		}
		if e := value.Check(text(s + "a")); e != api.ErrValue {
			t.Errorf("Check of one byte more than %d bytes %d: %d", api.MaxText, b, e)
		}
	}
}

// P1.1
func TestCheckRefusesWhatMayNotBe(t *testing.T) {
	for _, v := range badValues() {
		if e := value.Check(v); e != api.ErrValue {
			t.Errorf("Check(%v): %d", v, e)
		}
	}
}

// P1.2
func TestCmpByKindThenNumberThenText(t *testing.T) {
	l := goodValues()
	for i, a := range l {
		for j, b := range l {
			want := sign(i - j)
			if c := value.Cmp(a, b); c != want {
				t.Errorf("Cmp(%v, %v): %d, not %d", a, b, c, want)
			}
		}
	}
}

// P1.2: hand-made values are ordered by all fields too, Kind ahead of N ahead of S.
func TestCmpOfHandMadeValues(t *testing.T) {
	rising := []api.Value{
		{Kind: math.MinInt, N: math.MaxInt64, S: "z"},
		{Kind: -1, N: 9, S: "z"},
		{Kind: 0, N: 9, S: "z"},
		{Kind: api.KInt, N: math.MinInt64, S: "z"},
		{Kind: api.KInt, N: -1 << 32, S: "z"},
		{Kind: api.KInt, N: -1, S: "z"},
		{Kind: api.KInt, N: 0, S: ""},
		{Kind: api.KInt, N: 0, S: "a"},
		{Kind: api.KInt, N: 1, S: ""},
		{Kind: api.KInt, N: math.MaxInt64, S: ""},
		{Kind: api.KInt, N: math.MaxInt64, S: "a"},
		{Kind: api.KText, N: -1, S: "z"},
		{Kind: api.KText, N: 0, S: ""},
		{Kind: api.KText, N: 0, S: strings.Repeat("a", api.MaxText+1)},
		{Kind: api.KText, N: 0, S: strings.Repeat("a", api.MaxText+2)},
		{Kind: api.KText, N: 1, S: ""},
		{Kind: 3, N: math.MinInt64, S: ""},
		{Kind: math.MaxInt, N: math.MinInt64, S: ""},
	}
	for i, a := range rising {
		for j, b := range rising {
			if c := value.Cmp(a, b); c != sign(i-j) {
				t.Errorf("Cmp(%v, %v): %d, not %d", a, b, c, sign(i-j))
			}
		}
	}
}

// P1.2: equal texts are the same, whichever memory they lie in.
func TestCmpOfTextsInOtherMemory(t *testing.T) {
	a, b := text(string([]byte("same"))), text(strings.Join([]string{"sa", "me"}, ""))
	if c := value.Cmp(a, b); c != 0 {
		t.Errorf("Cmp(%v, %v): %d", a, b, c)
	}
	if c := value.CmpRow(row(num(1), a), row(num(1), b)); c != 0 {
		t.Errorf("CmpRow: %d", c)
	}
}

// risingRows are rows, hand-made ones too, each less than the next one.
func risingRows() [][]api.Value {
	return [][]api.Value{
		nil,
		row(api.Value{}),
		row(api.Value{}, num(1)),
		row(num(-1)),
		row(num(-1), num(-1), num(-1)),
		row(num(5)),
		row(num(5), num(6)),
		row(num(5), num(6), num(-7)),
		row(num(5), num(6), text("")),
		row(num(5), num(7)),
		row(num(5), text("a")),
		row(num(5), text("a"), num(1), num(1), num(1), num(1), num(1), num(1)),
		row(num(5), text("ab")),
		row(api.Value{Kind: api.KInt, N: 5, S: "a"}),
		row(num(6)),
		row(num(6), num(0)),
		row(text("")),
		row(text(""), text("")),
		row(text("a")),
		row(text("a"), num(5)),
		row(text("ab")),
		row(text("b")),
		row(api.Value{Kind: 3}, num(1)),
		row(api.Value{Kind: 3}, num(2)),
	}
}

// P1.2: also where one row is the other's beginning, and where it has no values.
func TestCmpRowValueByValue(t *testing.T) {
	l := risingRows()
	for i, a := range l {
		for j, b := range l {
			if c := value.CmpRow(a, b); c != sign(i-j) {
				t.Errorf("CmpRow(%v, %v): %d, not %d", a, b, c, sign(i-j))
			}
		}
	}
}

// P1.2: the first values that differ tell, whatever stands behind them.
func TestCmpRowByTheFirstThatDiffers(t *testing.T) {
	for at := range 6 {
		a, b := make([]api.Value, 0, 6), make([]api.Value, 0, 6)
		for i := range 6 {
			x, y := num(3), num(3)
			switch {
			case i == at:
				y = num(4)
			case i > at:
				x, y = num(9), num(0)
			}
			a, b = append(a, x), append(b, y)
		}
		if c, d := value.CmpRow(a, b), value.CmpRow(b, a); c != -1 || d != 1 {
			t.Errorf("CmpRow where values differ from %d on: %d, %d", at, c, d)
		}
	}
}

// P1.2, R4: nil and a list without elements are one row.
func TestCmpRowWithoutValues(t *testing.T) {
	if c := value.CmpRow(nil, []api.Value{}); c != 0 {
		t.Errorf("CmpRow(nil, none): %d", c)
	}
	if c := value.CmpRow([]api.Value{}, nil); c != 0 {
		t.Errorf("CmpRow(none, nil): %d", c)
	}
}

// P1.3
func TestCheckRow(t *testing.T) {
	bad := api.Value{Kind: 3}
	long := slices.Repeat(row(num(1), text("a")), 1000)
	for _, c := range []struct {
		name  string
		r     []api.Value
		kinds []int
		want  api.Errno
	}{
		{"no values", nil, nil, api.OK},
		{"no values, lists that are not nil", []api.Value{}, []int{}, api.OK},
		{"no values, no list of kinds", []api.Value{}, nil, api.OK},
		{"a number", row(num(5)), []int{api.KInt}, api.OK},
		{"a text", row(text("a")), []int{api.KText}, api.OK},
		{"a number and a text", row(num(5), text("a")), []int{api.KInt, api.KText}, api.OK},
		{"the greatest values", row(num(api.MaxInt), text(strings.Repeat("a", api.MaxText))), []int{api.KInt, api.KText}, api.OK},
		{"many values", long, value.Kinds(long), api.OK},

		{"a number for a text", row(num(5)), []int{api.KText}, api.ErrType},
		{"a text for a number", row(text("a")), []int{api.KInt}, api.ErrType},
		{"kinds in another order", row(num(5), text("a")), []int{api.KText, api.KInt}, api.ErrType},
		{"the first of another kind", row(num(5), num(5)), []int{api.KText, api.KInt}, api.ErrType},
		{"the last of another kind", row(num(5), num(5)), []int{api.KInt, api.KText}, api.ErrType},
		{"one kind too few", row(num(5), text("a")), []int{api.KInt}, api.ErrType},
		{"one kind too many", row(num(5)), []int{api.KInt, api.KText}, api.ErrType},
		{"no kinds", row(num(5)), nil, api.ErrType},
		{"no values, but kinds", nil, []int{api.KInt}, api.ErrType},
		{"no values, kinds of 0", nil, []int{0}, api.ErrType},
		{"a kind of 0", row(num(5)), []int{0}, api.ErrType},
		{"a kind of 3", row(num(5)), []int{3}, api.ErrType},
		{"a kind below 0", row(text("a")), []int{-2}, api.ErrType},

		{"a value that may not be", row(bad), []int{api.KInt}, api.ErrValue},
		{"of a kind that is none, as asked for", row(bad), []int{3}, api.ErrValue},
		{"zero's kind, as asked for", row(api.Value{}), []int{0}, api.ErrValue},
		{"beyond the numbers", row(num(api.MaxInt + 1)), []int{api.KInt}, api.ErrValue},
		{"a number with a text beside it", row(api.Value{Kind: api.KInt, N: 1, S: "a"}), []int{api.KInt}, api.ErrValue},
		{"a text with a number beside it", row(api.Value{Kind: api.KText, N: 1, S: "a"}), []int{api.KText}, api.ErrValue},

		{"both wrong: too few kinds", row(num(5), bad), []int{api.KInt}, api.ErrValue},
		{"both wrong: no kinds", row(bad), nil, api.ErrValue},
		{"both wrong: too many kinds", row(bad), []int{api.KInt, api.KInt}, api.ErrValue},
		{"both wrong: another kind ahead", row(num(5), bad), []int{api.KText, api.KInt}, api.ErrValue},
		{"both wrong: another kind behind", row(bad, num(5)), []int{api.KInt, api.KText}, api.ErrValue},
	} {
		if e := value.CheckRow(c.r, c.kinds); e != c.want {
			t.Errorf("%s: %d, not %d", c.name, e, c.want)
		}
	}
}

// P1.3: what Check refuses is refused in a row, at each place.
func TestCheckRowAsksCheckOfEachValue(t *testing.T) {
	kinds := []int{api.KInt, api.KText, api.KInt}
	for _, v := range badValues() {
		for at := range kinds {
			r := row(num(1), text("a"), num(2))
			r[at] = v
			if e := value.CheckRow(r, kinds); e != api.ErrValue {
				t.Errorf("CheckRow with %v at %d: %d", v, at, e)
			}
		}
	}
	for _, v := range goodValues() {
		if e := value.CheckRow(row(v), []int{v.Kind}); e != api.OK {
			t.Errorf("CheckRow(%v): %d", v, e)
		}
	}
}

// P1.3: hand-made values have kinds too.
func TestKinds(t *testing.T) {
	for _, c := range []struct {
		r    []api.Value
		want []int
	}{
		{nil, nil},
		{[]api.Value{}, nil},
		{row(num(5)), []int{1}},
		{row(text("a")), []int{2}},
		{row(num(5), text("a")), []int{1, 2}},
		{row(text("a"), num(5), num(6), text("")), []int{2, 1, 1, 2}},
		{row(api.Value{}, api.Value{Kind: -3}, api.Value{Kind: math.MaxInt}, num(1)), []int{0, -3, math.MaxInt, 1}},
	} {
		if k := value.Kinds(c.r); !slices.Equal(k, c.want) {
			t.Errorf("Kinds(%v): %d, not %d", c.r, k, c.want)
		}
	}
}

// P1.4: values stand in one line, and those neither of which is first are the same.
func TestValuesStandInOneLine(t *testing.T) {
	l := append(goodValues(), badValues()...)
	l = append(l, goodValues()...)
	checkLine(t, l, value.Cmp, func(a, b api.Value) bool { return a == b })
}

// P1.4: rows too.
func TestRowsStandInOneLine(t *testing.T) {
	l := append(risingRows(), risingRows()...)
	for _, v := range badValues() {
		l = append(l, row(v), row(num(5), v))
	}
	checkLine(t, l, value.CmpRow, slices.Equal[[]api.Value])
}

// checkLine tells where an order is not one line: each two are told alike from
// both sides, 0 is told of the same ones alone, and no three go in a ring.
func checkLine[T any](t *testing.T, l []T, order func(a, b T) int, same func(a, b T) bool) {
	t.Helper()
	for _, a := range l {
		for _, b := range l {
			c := order(a, b)
			if c < -1 || c > 1 || c != -order(b, a) {
				t.Errorf("%v, %v: %d, and turned %d", a, b, c, order(b, a))
			}
			if (c == 0) != same(a, b) {
				t.Errorf("%v, %v: %d, the same: %v", a, b, c, same(a, b))
			}
			for _, d := range l {
				if c <= 0 && order(b, d) <= 0 && order(a, d) > 0 {
					t.Errorf("%v, %v, %v go in a ring", a, b, d)
				}
			}
		}
	}
}

// R4: what is handed in is not changed, its spare room neither.
func TestArgumentsStayAsTheyAre(t *testing.T) {
	whole := row(num(5), text("a"), num(7), text("spare"))
	kinds := []int{api.KInt, api.KText, 77, 78}
	wasRow, wasKinds := slices.Clone(whole), slices.Clone(kinds)
	r, k := whole[:2], kinds[:2]
	value.CheckRow(r, k)
	value.CheckRow(r, kinds[:1])
	value.CmpRow(r, whole[:1])
	value.Kinds(r)
	if !slices.Equal(whole, wasRow) || !slices.Equal(kinds, wasKinds) {
		t.Errorf("changed: %v, %d", whole, kinds)
	}
}

// R4: each answer is new memory.
func TestKindsAreNewMemory(t *testing.T) {
	r := row(num(5), text("a"))
	k := value.Kinds(r)
	for i := range k[:cap(k)] {
		k[:cap(k)][i] = 99
	}
	if again := value.Kinds(r); !slices.Equal(again, []int{1, 2}) {
		t.Errorf("Kinds, asked again: %d", again)
	}
	if r[0] != num(5) || r[1] != text("a") {
		t.Errorf("the row: %v", r)
	}
}

// The chapter's table of examples.
func TestExamples(t *testing.T) {
	for _, c := range []struct {
		call      string
		got, want int
	}{
		{"Cmp(5, `a`)", value.Cmp(num(5), text("a")), -1},
		{"Cmp(`a`, `ab`)", value.Cmp(text("a"), text("ab")), -1},
		{"CmpRow(5; 5 6)", value.CmpRow(row(num(5)), row(num(5), num(6))), -1},
		{"Check(kind 3)", int(value.Check(api.Value{Kind: 3})), int(api.ErrValue)},
		{"Check(2^31)", int(value.Check(num(1 << 31))), int(api.ErrValue)},
		{"CheckRow(5 `a`; KInt KText)", int(value.CheckRow(row(num(5), text("a")), []int{api.KInt, api.KText})), int(api.OK)},
		{"CheckRow(5; KText)", int(value.CheckRow(row(num(5)), []int{api.KText})), int(api.ErrType)},
	} {
		if c.got != c.want {
			t.Errorf("%s: %d, not %d", c.call, c.got, c.want)
		}
	}
}

func sign(n int) int {
	switch {
	case n < 0:
		return -1
	case n > 0:
		return 1
	}
	return 0
}
