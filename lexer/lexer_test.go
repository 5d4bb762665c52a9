package lexer

import (
	"math"
	"math/rand"
	"slices"
	"strconv"
	"strings"
	"testing"

	"wainscot/api"
)

func name(s string) Word { return Word{Kind: 1, Text: s} }

func number(n int64) Word { return Word{Kind: 2, Text: strconv.FormatInt(n, 10), N: n} }

func text(s string) Word { return Word{Kind: 3, Text: s} }

func sign(s string) Word { return Word{Kind: 4, Text: s} }

func keywords() []string {
	return strings.Fields("CREATE TABLE INDEX UNIQUE MATERIALIZED VIEW DROP INSERT INTO VALUES UPDATE SET DELETE FROM SELECT DISTINCT WHERE GROUP BY ORDER ASC DESC LIMIT JOIN ON AS AND OR NOT IS NULL INT TEXT BEGIN COMMIT ROLLBACK COUNT SUM MIN MAX")
}

func TestLetter(t *testing.T) {
	for _, r := range "azAZmM_\u03b1\u03c9\u03c2" {
		if !Letter(r) {
			t.Errorf("%c", r)
		}
	}
	for _, r := range []rune{0, '0', '9', '@', '[', '`', '{', '-', ' ', '\'', 0x3b0, 0x3ca, 0x391, 0xe9, 0xfffd, -1, math.MaxInt32, math.MinInt32} {
		if Letter(r) {
			t.Errorf("%x", r)
		}
	}
}

func TestName(t *testing.T) {
	for _, s := range []string{"a", "_", "a1", "_9", "Z", "select", "Select", "SELECTS", "COUNT1", "αβγ", "ω9_", "abcdefghijklmnop", strings.Repeat("α", 16)} {
		if !Name(s) {
			t.Error(s)
		}
	}
	for _, s := range append(keywords(), "", "1", "1a", "a b", " a", "a ", "a-", "é", "aé", "a\xce", "\xce\xb1\xff", "abcdefghijklmnopq", strings.Repeat("α", 17), "'a'", "a.b", "Α") {
		if Name(s) {
			t.Error(s)
		}
	}
}

func TestKeyword(t *testing.T) {
	for _, s := range keywords() {
		if !Keyword(s) || Keyword(strings.ToLower(s)) || Keyword(s+"X") || Keyword(s+" ") {
			t.Error(s)
		}
	}
	for _, s := range []string{"", "a", "AVG", "HAVING", "ALL", "UNION", "TRUE"} {
		if Keyword(s) {
			t.Error(s)
		}
	}
}

func TestWords(t *testing.T) {
	long := strings.Repeat("x", api.MaxText)
	for _, c := range []struct {
		s    string
		want []Word
	}{
		{"", nil},
		{" \t\n", nil},
		{"a<=1--x", []Word{name("a"), sign("<="), number(1)}},
		{"'it''s'", []Word{text("it's")}},
		{"''", []Word{text("")}},
		{"''''", []Word{text("'")}},
		{"''''''", []Word{text("''")}},
		{"'a''''b'", []Word{text("a''b")}},
		{"'a' 'b'", []Word{text("a"), text("b")}},
		{"'a'b", []Word{text("a"), name("b")}},
		{"'a'1", []Word{text("a"), number(1)}},
		{"'--a\n\t'", []Word{text("--a\n\t")}},
		{"'\x00\xff\xce é'", []Word{text("\x00\xff\xce é")}},
		{"'\xff'''", []Word{text("\xff'")}},
		{"'" + long + "'", []Word{text(long)}},
		{"'" + strings.Repeat("''", api.MaxText) + "'", []Word{text(strings.Repeat("'", api.MaxText))}},
		{"0", []Word{number(0)}},
		{"9223372036854775807", []Word{number(math.MaxInt64)}},
		{"10", []Word{number(10)}},
		{"a1 A_ αω9", []Word{name("a1"), name("A_"), name("αω9")}},
		{"abcdefghijklmnop", []Word{name("abcdefghijklmnop")}},
		{strings.Repeat("ω", 16), []Word{name(strings.Repeat("ω", 16))}},
		{"SELECT", []Word{name("SELECT")}},
		{"(),.;*+-=<><<=>>=", []Word{sign("("), sign(")"), sign(","), sign("."), sign(";"), sign("*"), sign("+"), sign("-"), sign("="), sign("<>"), sign("<"), sign("<="), sign(">"), sign(">=")}},
		{"<=>", []Word{sign("<="), sign(">")}},
		{"<>=", []Word{sign("<>"), sign("=")}},
		{"><", []Word{sign(">"), sign("<")}},
		{"=<", []Word{sign("="), sign("<")}},
		{"< =", []Word{sign("<"), sign("=")}},
		{">==", []Word{sign(">="), sign("=")}},
		{"1.2", []Word{number(1), sign("."), number(2)}},
		{"1-2", []Word{number(1), sign("-"), number(2)}},
		{"-", []Word{sign("-")}},
		{"- -", []Word{sign("-"), sign("-")}},
		{"a--b\nc", []Word{name("a"), name("c")}},
		{"---a\n1", []Word{number(1)}},
		{"--'é\xff\n-1", []Word{sign("-"), number(1)}},
		{"--a", nil},
		{"1--2", []Word{number(1)}},
		{"<--\n=", []Word{sign("<"), sign("=")}},
		{"a\tb\nc d", []Word{name("a"), name("b"), name("c"), name("d")}},
	} {
		if got, e := Words(c.s); !slices.Equal(got, c.want) || e != api.OK {
			t.Errorf("%q: %v %d", c.s, got, e)
		}
	}
}

// A number is a word as the others are: what is written of it is its Text.
func TestNumbers(t *testing.T) {
	for s, want := range map[string][]Word{
		"7":                   {{Kind: 2, Text: "7", N: 7}},
		"0":                   {{Kind: 2, Text: "0"}},
		"9223372036854775807": {{Kind: 2, Text: "9223372036854775807", N: math.MaxInt64}},
		"- -0":                {{Kind: 4, Text: "-"}, {Kind: 4, Text: "-"}, {Kind: 2, Text: "0"}},
		"a<=1--x\n;":          {{Kind: 1, Text: "a"}, {Kind: 4, Text: "<="}, {Kind: 2, Text: "1", N: 1}, {Kind: 4, Text: ";"}},
		"'12'12":              {{Kind: 3, Text: "12"}, {Kind: 2, Text: "12", N: 12}},
		"a10 10.90":           {{Kind: 1, Text: "a10"}, {Kind: 2, Text: "10", N: 10}, {Kind: 4, Text: "."}, {Kind: 2, Text: "90", N: 90}},
	} {
		if got, e := Words(s); !slices.Equal(got, want) || e != api.OK {
			t.Errorf("%q: %v %d", s, got, e)
		}
	}
}

func TestSyntax(t *testing.T) {
	for _, s := range []string{
		"01", "00", "1a", "1_", "1α", "'a", "'", "'''", "'a''", "9223372036854775808", "99999999999999999999999", "é", "aé", "1é", "\xff", "a\xff", "a\r", "\x00", "!", "a!=b", "\"a\"", "a/b", "[", "{", "&", "%", "a\x0b", "\u00a0",
		"abcdefghijklmnopq", strings.Repeat("ω", 17), "'" + strings.Repeat("x", api.MaxText+1) + "'", "'" + strings.Repeat("''", api.MaxText+1) + "'", "\u03b0", "\u03ca", "a \u03b0", "1 '",
	} {
		if got, e := Words(s); len(got) != 0 || e != api.ErrSyntax {
			t.Errorf("%q: %v %d", s, got, e)
		}
	}
}

func TestLong(t *testing.T) {
	blanks := strings.Repeat(" ", api.MaxSource)
	full := strings.Repeat("a ", api.MaxWords)
	signs := strings.Repeat("(", api.MaxWords)
	for _, c := range []struct {
		s string
		n int
		e api.Errno
	}{
		{blanks, 0, api.OK}, {blanks + " ", 0, api.ErrLong}, {"'" + blanks, 0, api.ErrLong},
		{full, api.MaxWords, api.OK}, {full + "--a", api.MaxWords, api.OK}, {signs, api.MaxWords, api.OK},
		{full + "a", 0, api.ErrLong}, {full + "1", 0, api.ErrLong}, {full + "''", 0, api.ErrLong}, {signs + "(", 0, api.ErrLong}, {full + "a !", 0, api.ErrLong}, {full + "a!", 0, api.ErrLong},
		{full + "!", 0, api.ErrSyntax}, {full + "01", 0, api.ErrSyntax}, {full + "1a", 0, api.ErrSyntax}, {full + "'a", 0, api.ErrSyntax}, {full + "abcdefghijklmnopq", 0, api.ErrSyntax}, {"! " + full + "a", 0, api.ErrSyntax},
	} {
		if got, e := Words(c.s); len(got) != c.n || e != c.e {
			t.Errorf("%.20q..: %d %d", c.s, len(got), e)
		}
	}
}

// written writes words as a text, a blank behind each.
func written(words []Word) string {
	var b strings.Builder
	for _, w := range words {
		if w.Kind == 3 {
			b.WriteString("'" + strings.ReplaceAll(w.Text, "'", "''") + "'")
		} else {
			b.WriteString(w.Text)
		}
		b.WriteByte(' ')
	}
	return b.String()
}

func TestWrittenAgain(t *testing.T) {
	r := rand.New(rand.NewSource(5))
	pieces := append(keywords(), "a", "bc", "α", "_1", " ", "\n", "\t", "0", "17", "900", "'", "''", "'x'", "--", "-", "<", ">", "=", "<=", "<>", ">=", "(", ")", ",", ".", ";", "*", "+", "é", "\xff")
	good := 0
	for range 20000 {
		var b strings.Builder
		for range r.Intn(12) {
			b.WriteString(pieces[r.Intn(len(pieces))])
		}
		words, e := Words(b.String())
		if e != api.OK {
			continue
		}
		good++
		if again, e := Words(written(words)); !slices.Equal(again, words) || e != api.OK {
			t.Fatalf("%q: %v, %v %d", b.String(), words, again, e)
		}
	}
	if good < 1000 {
		t.Error("too few right texts:", good)
	}
}
