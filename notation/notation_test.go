package notation

import (
	"fmt"
	"math"
	"math/big"
	"regexp"
	"slices"
	"strings"
	"testing"

	"netcalculus/api"
	"netcalculus/curve"
)

const (
	most = api.MaxValue
	inf  = api.Infinite
)

func c(period, increment int, values ...int) api.Curve {
	return api.Curve{Values: values, Period: period, Increment: increment}
}

func same(f, g api.Curve) bool {
	return slices.Equal(f.Values, g.Values) && f.Period == g.Period && f.Increment == g.Increment
}

func sameLists(a, b []api.Named) bool {
	return slices.EqualFunc(a, b, func(x, y api.Named) bool { return x.Name == y.Name && same(x.Curve, y.Curve) })
}

// filled is a curve whose text has 11 bytes for each of so many values, 13 for the words behind them, and those of first with a space.
func filled(first, number int) api.Curve {
	return c(1, 0, append([]int{first}, slices.Repeat([]int{most}, number)...)...)
}

// curves are valid ones, in normal form or not, with texts of up to MaxText bytes.
func curves() []api.Curve {
	l := []api.Curve{
		c(1, 0, 0), c(1, 3, 0), c(1, 3, 0, 3, 6), c(2, 6, 0, 3, 6), c(2, 5, 0, 5), c(3, 10, 5, 5, 12), c(1, 0, 0, 5), c(1, 0, 0, 5, 5), c(1, most, most), c(2, most, 0, most),
		c(1, 0, inf), c(1, 0, inf, inf), c(1, 0, 0, 0, 0, inf), c(1, 0, 9, 10, 99, 100, most, inf, inf),
		c(120, 7, make([]int, 120)...), c(120, 840, make([]int, 400)...), c(1, 0, slices.Repeat([]int{inf}, 400)...), c(1, 0, make([]int, 400)...),
		filled(100000, 362), filled(99999, 362),
	}
	for i := range 6 {
		l = append(l, c(i+1, 10*i, slices.Repeat([]int{i * i}, i+1)...))
	}
	return l
}

// invalid are curves that are not valid, of which some have long texts.
func invalid() []api.Curve {
	return []api.Curve{
		{}, c(1, 0), c(0, 0, 1), c(2, 0, 1), c(-1, 0, 1), c(math.MinInt, math.MaxInt, 1), c(1, -1, 1), c(1, most+1, 1), c(1, inf, 1), c(1, 0, -1), c(1, 0, most+1), c(1, 0, inf-1), c(1, 0, inf+1), c(1, 0, 3, 2), c(1, 0, inf, 0),
		c(1, 1, 0, inf), c(2, 0, 0, inf), c(2, 4, 0, 5), c(1, 0, make([]int, 401)...), c(121, 0, make([]int, 121)...), c(1, 0, slices.Repeat([]int{most + 1}, 400)...), c(1, 0, slices.Repeat([]int{most}, 401)...), c(1, 0, make([]int, 5000)...),
	}
}

// wantFormat writes the words of a curve one by one.
func wantFormat(f api.Curve) string {
	s := ""
	for _, v := range f.Values {
		s += strings.Replace(fmt.Sprintf("%d ", v), "4611686018427387904", "inf", 1)
	}
	return s + fmt.Sprintf("per %d inc %d", f.Period, f.Increment)
}

var (
	numbers = regexp.MustCompile(`^(0|[1-9][0-9]*)$`)
	begun   = regexp.MustCompile(`^[ni]+(p(n(c(n)?)?)?)?$`)
	whole   = regexp.MustCompile(`^[ni]+pncn$`)
	line    = regexp.MustCompile(`^([a-z][a-z0-9]{0,11}) = ([^\n]*)\n$`)
)

// kind tells words apart: numbers, inf, per, inc and others.
func kind(word string) string {
	switch {
	case numbers.MatchString(word):
		return "n"
	case word == "inf":
		return "i"
	case word == "per":
		return "p"
	case word == "inc":
		return "c"
	}
	return "?"
}

// wantParse looks for the first word with which the words are no longer the beginning of a text, or whose number is too great.
func wantParse(s string) (api.Curve, int, api.Errno) {
	if len(s) > 4000 {
		return api.Curve{}, 0, api.ErrLimit
	}
	kinds, at := "", 0
	var all []int
	for _, word := range strings.Split(s, " ") {
		k := kind(word)
		if kinds += k; !begun.MatchString(kinds) {
			return api.Curve{}, at, api.ErrSyntax
		}
		if k == "n" {
			n, _ := new(big.Int).SetString(word, 10)
			if n.Cmp(big.NewInt(most)) > 0 {
				return api.Curve{}, at, api.ErrRange
			}
			all = append(all, int(n.Int64()))
		} else if k == "i" {
			all = append(all, inf)
		}
		at += len(word) + 1
	}
	if !whole.MatchString(kinds) {
		return api.Curve{}, len(s), api.ErrSyntax
	}
	number := len(all) - 2
	f := c(all[number], all[number+1], all[:number]...)
	if !curve.Valid(f) {
		return api.Curve{}, 0, api.ErrCurve
	}
	return f, 0, api.OK
}

func checkParse(t *testing.T, s string) {
	t.Helper()
	want, wantAt, wantErrno := wantParse(s)
	if f, at, e := Parse(s); !same(f, want) || at != wantAt || e != wantErrno {
		t.Fatalf("Parse(%.80q): %v %d %d, not %v %d %d", s, f, at, e, want, wantAt, wantErrno)
	}
}

// wantParseAll reads line by line, each one as a whole.
func wantParseAll(s string) ([]api.Named, int, int, api.Errno) {
	if len(s) > 4000 {
		return nil, 0, 0, api.ErrLimit
	}
	var l []api.Named
	seen := map[string]bool{}
	for i, text := range strings.SplitAfter(s, "\n") {
		if text == "" {
			continue
		}
		parts := line.FindStringSubmatch(text)
		if parts == nil {
			return nil, i + 1, 0, api.ErrSyntax
		}
		f, at, e := wantParse(parts[2])
		if e != api.OK {
			return nil, i + 1, at, e
		}
		if seen[parts[1]] {
			return nil, i + 1, 0, api.ErrOrder
		}
		if seen[parts[1]] = true; i == 40 {
			return nil, i + 1, 0, api.ErrLimit
		}
		l = append(l, api.Named{Name: parts[1], Curve: f})
	}
	return l, 0, 0, api.OK
}

func checkParseAll(t *testing.T, s string) {
	t.Helper()
	want, wantLine, wantAt, wantErrno := wantParseAll(s)
	if l, line, at, e := ParseAll(s); !sameLists(l, want) || line != wantLine || at != wantAt || e != wantErrno {
		t.Fatalf("ParseAll(%.80q): %v %d %d %d, not %v %d %d %d", s, l, line, at, e, want, wantLine, wantAt, wantErrno)
	}
}

// wantFormatAll collects the errors of all elements and takes the first one.
func wantFormatAll(l []api.Named) (string, api.Errno) {
	s, seen := "", map[string]bool{}
	var errors []api.Errno
	for _, x := range l {
		if !line.MatchString(x.Name + " = \n") {
			errors = append(errors, api.ErrSyntax)
		}
		text := wantFormat(x.Curve)
		if !curve.Valid(x.Curve) {
			errors = append(errors, api.ErrCurve)
		} else if len(text) > 4000 {
			errors = append(errors, api.ErrLimit)
		}
		if seen[x.Name] {
			errors = append(errors, api.ErrOrder)
		}
		seen[x.Name] = true
		s += x.Name + " = " + text + "\n"
	}
	if len(l) > 40 {
		errors = slices.Insert(errors, 0, api.ErrLimit)
	} else if len(s) > 4000 {
		errors = append(errors, api.ErrLimit)
	}
	if len(errors) > 0 {
		return "", errors[0]
	}
	return s, api.OK
}

// sequences calls yield with all lists of exactly so many elements of the choices.
func sequences[E any](choices []E, number int, yield func([]E)) {
	l := make([]E, number)
	var set func(i int)
	set = func(i int) {
		if i == number {
			yield(slices.Clone(l))
			return
		}
		for _, x := range choices {
			l[i] = x
			set(i + 1)
		}
	}
	set(0)
}

// changed calls yield with the texts that differ from s in one byte, or lack it, or have one more.
func changed(s string, yield func(string)) {
	for i := range len(s) + 1 {
		for _, b := range []string{"", " ", "0", "1", "9", "x", "a", "A", "=", "\n", "\t", "-", "+", "_", ".", "/", ":", "`", "{", "\x00", "\xff", "\u0663", "inf", " inf", "per ", "inc ", "1073741825"} {
			yield(s[:i] + b + s[i:])
			if i < len(s) {
				yield(s[:i] + b + s[i+1:])
			}
		}
	}
}

// P3.1, and the first consequence
func TestFormat(t *testing.T) {
	for _, x := range []struct {
		f    api.Curve
		want string
	}{
		{c(1, 3, 0), "0 per 1 inc 3"}, {c(1, 2, 0, 10, 12), "0 10 12 per 1 inc 2"}, {c(2, 6, 0, 3, 6), "0 3 6 per 2 inc 6"}, {c(1, 0, 0, 0, 0, inf), "0 0 0 inf per 1 inc 0"}, {c(1, 0, inf, inf), "inf inf per 1 inc 0"}, {c(1, most, most), "1073741824 per 1 inc 1073741824"},
	} {
		if s, e := Format(x.f); s != x.want || e != api.OK {
			t.Errorf("Format(%v): %q %d", x.f, s, e)
		}
	}
	for _, f := range curves() {
		s, e := Format(f)
		if s != wantFormat(f) || e != api.OK {
			t.Errorf("Format(%v): %q %d", f, s, e)
		}
		if g, at, e := Parse(s); !same(f, g) || at != 0 || e != api.OK {
			t.Errorf("Parse(%q): %v %d %d", s, g, at, e)
		}
	}
}

// P3.1
func TestFormatFaults(t *testing.T) {
	for _, f := range invalid() {
		if s, e := Format(f); s != "" || e != api.ErrCurve {
			t.Errorf("Format(%v): %q %d", f, s, e)
		}
	}
	for digits, first := range []int{1, 10, 100, 1000, 10000, 100000, 1000000, 10000000} {
		f := filled(first, 362)
		want := wantFormat(f)
		if len(want) != 3995+digits {
			t.Fatalf("a text of %d bytes", len(want))
		}
		s, e := Format(f)
		if digits <= 5 && (s != want || e != api.OK) || digits > 5 && (s != "" || e != api.ErrLimit) {
			t.Errorf("%d bytes: %d %d", len(want), len(s), e)
		}
	}
	if s, e := Format(filled(most, 399)); s != "" || e != api.ErrLimit {
		t.Errorf("the longest text: %d %d", len(s), e)
	}
}

// P3.2
func TestParse(t *testing.T) {
	for _, x := range []struct {
		s    string
		want api.Curve
		at   int
		e    api.Errno
	}{
		{"0 per 1 inc 3", c(1, 3, 0), 0, api.OK}, {"0 3 6 per 2 inc 6", c(2, 6, 0, 3, 6), 0, api.OK}, {"inf inf per 1 inc 0", c(1, 0, inf, inf), 0, api.OK}, {"1073741824 per 1 inc 1073741824", c(1, most, most), 0, api.OK},
		{"", api.Curve{}, 0, api.ErrSyntax}, {" ", api.Curve{}, 0, api.ErrSyntax}, {"0", api.Curve{}, 1, api.ErrSyntax}, {"0 ", api.Curve{}, 2, api.ErrSyntax}, {"0  ", api.Curve{}, 2, api.ErrSyntax}, {"per 1 inc 0", api.Curve{}, 0, api.ErrSyntax},
		{"0 x per 1 inc 3", api.Curve{}, 2, api.ErrSyntax}, {"0 inc 1 per 1", api.Curve{}, 2, api.ErrSyntax}, {"0 per", api.Curve{}, 5, api.ErrSyntax}, {"0 per inf inc 0", api.Curve{}, 6, api.ErrSyntax}, {"0 per per 1 inc 0", api.Curve{}, 6, api.ErrSyntax},
		{"0 per 1", api.Curve{}, 7, api.ErrSyntax}, {"0 per 1 ", api.Curve{}, 8, api.ErrSyntax}, {"0 per 1 1 inc 0", api.Curve{}, 8, api.ErrSyntax}, {"0 per 1 inc", api.Curve{}, 11, api.ErrSyntax}, {"0 per 1 inc inf", api.Curve{}, 12, api.ErrSyntax}, {"0 per 1 inc 3 ", api.Curve{}, 14, api.ErrSyntax}, {"0 per 1 inc 3 3", api.Curve{}, 14, api.ErrSyntax}, {"0 per 1 inc 3 inc 3", api.Curve{}, 14, api.ErrSyntax},
		{"00 per 1 inc 3", api.Curve{}, 0, api.ErrSyntax}, {"0 01 per 1 inc 3", api.Curve{}, 2, api.ErrSyntax}, {"0 per 01 inc 3", api.Curve{}, 6, api.ErrSyntax}, {"0 per 1 inc 03", api.Curve{}, 12, api.ErrSyntax}, {"+0 per 1 inc 3", api.Curve{}, 0, api.ErrSyntax}, {"-0 per 1 inc 3", api.Curve{}, 0, api.ErrSyntax}, {"1_0 per 1 inc 3", api.Curve{}, 0, api.ErrSyntax}, {"0x1 per 1 inc 3", api.Curve{}, 0, api.ErrSyntax}, {"0 per 1 inc 3\n", api.Curve{}, 12, api.ErrSyntax}, {"0\tper 1 inc 3", api.Curve{}, 0, api.ErrSyntax}, {"0 \u0663 per 1 inc 3", api.Curve{}, 2, api.ErrSyntax},
		// The first word that is at fault counts, whatever its fault is; a curve is looked at only behind the last word.
		{"1073741825 x", api.Curve{}, 0, api.ErrRange}, {"x 1073741825", api.Curve{}, 0, api.ErrSyntax}, {"0 1073741825", api.Curve{}, 2, api.ErrRange}, {"0 per 1073741825 x", api.Curve{}, 6, api.ErrRange}, {"0 per 1 inc 1073741825 ", api.Curve{}, 12, api.ErrRange}, {"5 4 per 1 inc 1073741825", api.Curve{}, 14, api.ErrRange}, {"5 4 per 1 inc 0 0", api.Curve{}, 16, api.ErrSyntax},
		{"9223372036854775808 per 1 inc 0", api.Curve{}, 0, api.ErrRange}, {"0 18446744073709551616 per 1 inc 0", api.Curve{}, 2, api.ErrRange}, {"4611686018427387904 per 1 inc 0", api.Curve{}, 0, api.ErrRange}, {"0 per 1 inc 4611686018427387904", api.Curve{}, 12, api.ErrRange},
		{"5 4 per 1 inc 0", api.Curve{}, 0, api.ErrCurve}, {"0 per 0 inc 0", api.Curve{}, 0, api.ErrCurve}, {"0 per 2 inc 0", api.Curve{}, 0, api.ErrCurve}, {"0 per 1073741824 inc 0", api.Curve{}, 0, api.ErrCurve}, {"0 inf per 1 inc 1", api.Curve{}, 0, api.ErrCurve}, {"inf 0 per 1 inc 0", api.Curve{}, 0, api.ErrCurve}, {"0 5 per 2 inc 4", api.Curve{}, 0, api.ErrCurve},
	} {
		if f, at, e := Parse(x.s); !same(f, x.want) || at != x.at || e != x.e {
			t.Errorf("Parse(%q): %v %d %d, not %v %d %d", x.s, f, at, e, x.want, x.at, x.e)
		}
		checkParse(t, x.s)
	}
}

// P3.2: all texts of a few words, and all texts that are nearly those of curves.
func TestParseMany(t *testing.T) {
	check := func(l []string) { checkParse(t, strings.Join(l, " ")) }
	for number := range 6 {
		sequences([]string{"", "0", "1", "inf", "per", "inc", "01", "x", "1073741824", "1073741825"}, number, check)
	}
	sequences([]string{"", "2", "inf", "per", "inc", "1073741825"}, 6, check)
	for _, s := range []string{"0 per 1 inc 3", "0 10 inf per 1 inc 0", "5 5 12 per 3 inc 10", "1073741824 per 1 inc 1073741824"} {
		changed(s, func(s string) { checkParse(t, s) })
		for i := range len(s) {
			checkParse(t, s[:i])
			checkParse(t, s[i:])
		}
	}
}

// P3.2: texts about as long as they may be.
func TestParseLong(t *testing.T) {
	for digits, first := range []int{1, 10, 100, 1000, 10000, 100000, 1000000} {
		f := filled(first, 362)
		s := wantFormat(f)
		g, at, e := Parse(s)
		if digits <= 5 && (!same(f, g) || at != 0 || e != api.OK) || digits > 5 && (!same(g, api.Curve{}) || at != 0 || e != api.ErrLimit) {
			t.Errorf("%d bytes: %v %d %d", len(s), g, at, e)
		}
	}
	for _, unit := range []string{"x", " ", "0", "1", "9", "0 ", "inf ", "per ", "\n", "\xff"} {
		for _, length := range []int{3999, 4000, 4001, 5000, 100000} {
			checkParse(t, strings.Repeat(unit, length)[:length])
		}
	}
	for _, number := range []int{399, 400, 401, 1900} {
		checkParse(t, strings.Repeat("0 ", number)+"per 1 inc 0")
		checkParse(t, strings.Repeat("0 ", number)+"per 1 inc 0 ")
		checkParse(t, strings.Repeat("0 ", number)+"per 120 inc 1")
		checkParse(t, strings.Repeat("0 ", number)+"per 121 inc 1")
	}
}

// P3.3
func TestIsName(t *testing.T) {
	letters := "abcdefghijklmnopqrstuvwxyz"
	for b := range 256 {
		s := string([]byte{byte(b)})
		letter, digit := strings.Contains(letters, s), strings.Contains("0123456789", s)
		if IsName(s) != letter || IsName("a"+s) != (letter || digit) || IsName("a"+s+"a") != (letter || digit) || IsName("abcdefghijk"+s) != (letter || digit) || IsName(s+"0") != letter {
			t.Errorf("%q", s)
		}
	}
	for length := range 30 {
		s := strings.Repeat("a0", 15)[:length]
		if IsName(s) != (length >= 1 && length <= 12) {
			t.Errorf("%q", s)
		}
	}
	if IsName(strings.Repeat("a", 1<<20)) || IsName("\u00e4") || IsName("a\u00e4") || IsName("a\u0663") {
		t.Error("a name that is none")
	}
}

// numbered is a list of so many curves, with different names.
func numbered(number int) []api.Named {
	var l []api.Named
	for i := range number {
		l = append(l, api.Named{Name: fmt.Sprintf("a%02d", i), Curve: c(1, i, 0)})
	}
	return l
}

// P3.3, P3.4 and the second consequence
func TestLists(t *testing.T) {
	good := []api.Named{{Name: "b", Curve: c(1, 3, 0)}, {Name: "a2", Curve: c(1, 0, 0, inf)}, {Name: "abcdefghijkl", Curve: c(1, 3, 0, 3)}}
	if s, e := FormatAll(good); s != "b = 0 per 1 inc 3\na2 = 0 inf per 1 inc 0\nabcdefghijkl = 0 3 per 1 inc 3\n" || e != api.OK {
		t.Errorf("%q %d", s, e)
	}
	l := [][]api.Named{nil, {}, good, good[1:], numbered(1), numbered(39), numbered(40)}
	for _, f := range curves() {
		if len(wantFormat(f)) < 1300 {
			l = append(l, []api.Named{{Name: "a", Curve: f}, {Name: "aa", Curve: f}, {Name: "a0", Curve: f}})
		}
	}
	for _, x := range l {
		want, _ := wantFormatAll(x)
		s, e := FormatAll(x)
		if s != want || e != api.OK {
			t.Errorf("FormatAll(%v): %q %d", x, s, e)
		}
		if y, line, at, e := ParseAll(s); !sameLists(x, y) || line != 0 || at != 0 || e != api.OK {
			t.Errorf("ParseAll(%q): %v %d %d %d", s, y, line, at, e)
		}
	}
}

// P3.3
func TestFormatAllFaults(t *testing.T) {
	var elements []api.Named
	for _, name := range []string{"a", "b", "A"} {
		for _, f := range []api.Curve{c(1, 3, 0), {}, filled(most, 399), filled(0, 180)} {
			elements = append(elements, api.Named{Name: name, Curve: f})
		}
	}
	met := map[api.Errno]bool{}
	for number := range 4 {
		sequences(elements, number, func(l []api.Named) {
			want, errno := wantFormatAll(l)
			if s, e := FormatAll(l); s != want || e != errno {
				t.Fatalf("FormatAll(%v): %q %d, not %q %d", l, s, e, want, errno)
			}
			met[errno] = true
		})
	}
	if len(met) != 5 {
		t.Errorf("only %v", met)
	}
	for _, l := range [][]api.Named{numbered(41), make([]api.Named, 41), make([]api.Named, 40), make([]api.Named, 1000)} {
		want, errno := wantFormatAll(l)
		if s, e := FormatAll(l); s != want || e != errno || e == api.OK {
			t.Errorf("%d elements: %q %d, not %d", len(l), s, e, errno)
		}
	}
	for _, first := range []int{0, 10, 100, 1000, 10000} {
		l := []api.Named{{Name: "a", Curve: filled(first, 361)}, {Name: "b", Curve: c(1, 0, inf)}}
		for _, x := range [][]api.Named{l, l[:1], {{Name: "abcdefgh", Curve: filled(first, 362)}}, {{Name: "a", Curve: filled(1, 362)}}, {{Name: "a", Curve: filled(10, 362)}}} {
			want, errno := wantFormatAll(x)
			if s, e := FormatAll(x); s != want || e != errno {
				t.Errorf("%d bytes: %d %d, not %d", len(want), len(s), e, errno)
			}
		}
	}
}

// P3.3, P3.4: a text of exactly MaxText bytes, and one of a byte more.
func TestLongestList(t *testing.T) {
	for i, errno := range []api.Errno{api.OK, api.ErrLimit} {
		// The last value of the second curve makes its line long enough, or too long by a digit.
		values := slices.Repeat([]int{1}, 333)
		values[332] = []int{1, 10}[i]
		l := []api.Named{{Name: "a", Curve: filled(1, 300)}, {Name: "b", Curve: c(1, 0, values...)}}
		want := "a = " + wantFormat(l[0].Curve) + "\nb = " + wantFormat(l[1].Curve) + "\n"
		if len(want) != 4000+i {
			t.Fatalf("%d bytes", len(want))
		}
		s, e := FormatAll(l)
		if e != errno || e == api.OK && s != want || e != api.OK && s != "" {
			t.Errorf("%d bytes: %d %d", len(want), len(s), e)
		}
		got, line, at, e := ParseAll(want)
		if line != 0 || at != 0 || e != errno || e == api.OK && !sameLists(got, l) || e != api.OK && len(got) > 0 {
			t.Errorf("%d bytes: %d %d %d", len(want), line, at, e)
		}
	}
}

// P3.4
func TestParseAll(t *testing.T) {
	forty := ""
	for i := range 40 {
		forty += fmt.Sprintf("a%02d = 0 per 1 inc %d\n", i, i)
	}
	good := "a = 0 per 1 inc 3\n"
	for _, x := range []struct {
		s        string
		line, at int
		e        api.Errno
	}{
		{"\n", 1, 0, api.ErrSyntax}, {"a", 1, 0, api.ErrSyntax}, {"a = 0 per 1 inc 3", 1, 0, api.ErrSyntax}, {"a = x", 1, 0, api.ErrSyntax}, {"a = 0 x", 1, 0, api.ErrSyntax}, {"a =\n", 1, 0, api.ErrSyntax}, {"a = \n", 1, 0, api.ErrSyntax}, {" = 0 per 1 inc 3\n", 1, 0, api.ErrSyntax}, {"a= 0 per 1 inc 3\n", 1, 0, api.ErrSyntax}, {"a =0 per 1 inc 3\n", 1, 0, api.ErrSyntax}, {"1 = 0 per 1 inc 3\n", 1, 0, api.ErrSyntax}, {"abcdefghijklm = 0 per 1 inc 3\n", 1, 0, api.ErrSyntax}, {"a b = 0 per 1 inc 3\n", 1, 0, api.ErrSyntax},
		{"a = b = 0 per 1 inc 3\n", 1, 0, api.ErrSyntax}, {"a = 0 = 0\n", 1, 2, api.ErrSyntax}, {"a = 0 per 1 inc 3 \n", 1, 14, api.ErrSyntax}, {"a = 0 per 1 inc 3\r\n", 1, 12, api.ErrSyntax}, {"a = 0 per\n", 1, 5, api.ErrSyntax}, {"a = 0 1073741825 x\n", 1, 2, api.ErrRange}, {"a = 5 4 per 1 inc 0\n", 1, 0, api.ErrCurve},
		{good + good, 2, 0, api.ErrOrder}, {good + "a = 0 x\n", 2, 2, api.ErrSyntax}, {good + "a = 5 4 per 1 inc 0\n", 2, 0, api.ErrCurve}, {good + "a = 0 per 1 inc 3", 2, 0, api.ErrSyntax}, {good + "\n" + good, 2, 0, api.ErrSyntax}, {good + "B = x\nc", 2, 0, api.ErrSyntax}, {good + "b = x\nA", 2, 0, api.ErrSyntax}, {good + "b = 0 per\na", 2, 5, api.ErrSyntax}, {good + "b = 0 per 1 inc 0\n" + good, 3, 0, api.ErrOrder},
		{forty + good, 41, 0, api.ErrLimit}, {forty + "a07 = 0 per 1 inc 3\n", 41, 0, api.ErrOrder}, {forty + "b = 0 x\n", 41, 2, api.ErrSyntax}, {forty + "b = 1 0 per 1 inc 0\n", 41, 0, api.ErrCurve}, {forty + "b", 41, 0, api.ErrSyntax}, {forty + "\n", 41, 0, api.ErrSyntax}, {forty + good + "x", 41, 0, api.ErrLimit},
		{strings.Repeat("x", 4000), 1, 0, api.ErrSyntax}, {strings.Repeat("x", 4001), 0, 0, api.ErrLimit}, {strings.Repeat(good, 223), 0, 0, api.ErrLimit}, {strings.Repeat(good, 222), 2, 0, api.ErrOrder}, {strings.Repeat("\n", 4001), 0, 0, api.ErrLimit},
	} {
		if l, line, at, e := ParseAll(x.s); len(l) > 0 || line != x.line || at != x.at || e != x.e {
			t.Errorf("ParseAll(%.80q): %v %d %d %d, not %d %d %d", x.s, l, line, at, e, x.line, x.at, x.e)
		}
		checkParseAll(t, x.s)
	}
	for _, s := range []string{"", good, forty, forty[:len(forty)-1], good + "b = inf per 1 inc 0\n"} {
		checkParseAll(t, s)
	}
}

// P3.4: all texts of a few lines, and all texts that are nearly those of lists.
func TestParseAllMany(t *testing.T) {
	lines := []string{"a = 0 per 1 inc 3\n", "b1 = 0 inf per 1 inc 0\n", "a = 5 4 per 1 inc 0\n", "c = 0 per 1 inc 1073741825\n", "A = 0 per 1 inc 3\n", "d = 0 per 1\n", "e = 0 per 1 inc 3", "\n", "a =", " "}
	for number := range 5 {
		sequences(lines, number, func(l []string) { checkParseAll(t, strings.Join(l, "")) })
	}
	for _, s := range []string{"a = 0 per 1 inc 3\nb1 = 0 inf per 1 inc 0\n", "abcdefghijkl = 5 5 12 per 3 inc 10\n"} {
		changed(s, func(s string) { checkParseAll(t, s) })
		for i := range len(s) {
			checkParseAll(t, s[:i])
			checkParseAll(t, s[i:])
		}
	}
}

// P3.4
func TestFind(t *testing.T) {
	l := []api.Named{{Name: "a", Curve: c(2, 6, 0, 3, 6)}, {Name: "B"}, {Name: "a", Curve: c(1, 4, 0)}, {Name: "", Curve: c(-1, 5, 7, 3)}, {Name: "b", Curve: c(1, 0, inf)}}
	for _, x := range []struct {
		name string
		want api.Curve
		e    api.Errno
	}{
		{"a", c(2, 6, 0, 3, 6), api.OK}, {"b", c(1, 0, inf), api.OK}, {"B", api.Curve{}, api.OK}, {"", c(-1, 5, 7, 3), api.OK}, {"c", api.Curve{}, api.ErrNone}, {"A", api.Curve{}, api.ErrNone}, {"aa", api.Curve{}, api.ErrNone},
	} {
		if f, e := Find(l, x.name); !same(f, x.want) || e != x.e {
			t.Errorf("Find(%q): %v %d", x.name, f, e)
		}
		for _, empty := range [][]api.Named{nil, {}, l[:0]} {
			if f, e := Find(empty, x.name); !same(f, api.Curve{}) || e != api.ErrNone {
				t.Errorf("Find(%q) in nothing: %v %d", x.name, f, e)
			}
		}
	}
}

// P3.1, P3.2, P3.3, P3.4 and R2: arguments, with their spare capacity, stay as they are, and results share no memory with them.
func TestMemory(t *testing.T) {
	store := []int{0, 3, 6, -5, -6}
	l := []api.Named{{Name: "a", Curve: c(2, 6, store[:3]...)}, {Name: "b", Curve: c(1, 4, 0)}, {Name: "spare", Curve: c(9, 9)}}
	Format(l[0].Curve)
	if _, e := FormatAll(l[:2]); e != api.OK {
		t.Error(e)
	}
	f, _ := Find(l[:2], "a")
	for i := range f.Values[:cap(f.Values)] {
		f.Values[:cap(f.Values)][i] = -9
	}
	if !slices.Equal(store, []int{0, 3, 6, -5, -6}) || !sameLists(l, []api.Named{{Name: "a", Curve: c(2, 6, 0, 3, 6)}, {Name: "b", Curve: c(1, 4, 0)}, {Name: "spare", Curve: c(9, 9)}}) {
		t.Errorf("%v %v", store, l)
	}
	text := "a = 0 3 6 per 2 inc 6\nb = 0 3 6 per 2 inc 6\n"
	first, _, _, _ := ParseAll(text)
	again, _, _, _ := ParseAll(text)
	values := first[0].Curve.Values
	for i := range values[:cap(values)] {
		values[:cap(values)][i] = -9
	}
	if want := c(2, 6, 0, 3, 6); !same(first[1].Curve, want) || !same(again[0].Curve, want) {
		t.Errorf("%v %v", first, again)
	}
}

// The deferred functions end a panic only if its cause is a fault.
func TestFaultOf(t *testing.T) {
	found := fault{line: 2, at: 3, errno: api.ErrOrder}
	if got, ok := faultOf(found); got != found || !ok {
		t.Errorf("%v %t", got, ok)
	}
	if got, ok := faultOf(nil); got != (fault{}) || ok {
		t.Errorf("%v %t", got, ok)
	}
	defer func() {
		if cause := recover(); cause != "other" {
			t.Errorf("%v", cause)
		}
	}()
	faultOf("other")
	t.Error("another cause was taken for a fault")
}
