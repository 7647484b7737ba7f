package text_test

import (
	"math"
	"math/big"
	"regexp"
	"strings"
	"testing"

	"sorites/api"
	"sorites/text"
)

// numberForm is what the document calls a number's text, but for its size.
var numberForm = regexp.MustCompile(`^(0|-?[1-9][0-9]*)$`)

func isNumber(s string) bool {
	n, ok := new(big.Int).SetString(s, 10)
	return ok && numberForm.MatchString(s) && n.IsInt64()
}

// P1.1
func TestNumbersHaveTheirTexts(t *testing.T) {
	for _, c := range []struct {
		n int64
		s string
	}{
		{0, "0"}, {1, "1"}, {-1, "-1"}, {-5, "-5"}, {9, "9"}, {10, "10"}, {-10, "-10"}, {100, "100"}, {90210, "90210"},
		{math.MaxInt32, "2147483647"}, {math.MinInt32, "-2147483648"},
		{math.MaxInt64, "9223372036854775807"}, {math.MaxInt64 - 1, "9223372036854775806"},
		{math.MinInt64, "-9223372036854775808"}, {math.MinInt64 + 1, "-9223372036854775807"},
		{1000000000000000000, "1000000000000000000"}, {-1000000000000000000, "-1000000000000000000"},
	} {
		if s := text.Num(c.n); s != c.s {
			t.Errorf("Num(%d) = %q", c.n, s)
		}
		if n, e := text.ParseNum(c.s); n != c.n || e != api.OK {
			t.Errorf("ParseNum(%q) = %d, %d", c.s, n, e)
		}
	}
}

// P1.1, R2
func TestWhatIsNoNumberIsRefused(t *testing.T) {
	for _, s := range []string{
		"", "-", "--1", "-0", "00", "007", "-01", "-00", "0-", "1-", "1-1", "+1", "+0", " 1", "1 ", "1\n", "\t1", "-\n1",
		"1a", "a1", "a", "0x1", "0b1", "1_0", "1.0", "1.", ".1", "1e3", "1,0", "\x00", "1\x00", "1\xff", "\xff",
		"/", ":", "1/", "1:", "\u0661", "1\u0661", "\uff11", "\u22121",
		"9223372036854775808", "9223372036854775809", "9223372036854775810", "9300000000000000000", "-9223372036854775809",
		"-9223372036854775810", "9999999999999999999", "10000000000000000000", "18446744073709551615", "18446744073709551616",
		"18446744073709551617", "-18446744073709551617", "36893488147419103233", "92233720368547758070", "-92233720368547758080",
		strings.Repeat("9", 40), "-" + strings.Repeat("9", 40), strings.Repeat("0", 100000), "1" + strings.Repeat("0", 100000),
	} {
		if n, e := text.ParseNum(s); n != 0 || e != api.ErrText {
			t.Errorf("ParseNum(%.50q) = %d, %d", s, n, e)
		}
	}
}

// P1.3
func TestNumbersAreReadFromTheirTexts(t *testing.T) {
	check := func(n int64) {
		s := text.Num(n)
		if m, e := text.ParseNum(s); m != n || e != api.OK || !isNumber(s) {
			t.Fatalf("%d becomes %q, which becomes %d, %d", n, s, m, e)
		}
	}
	for n := int64(-3000); n <= 3000; n++ {
		check(n)
		check(math.MaxInt64 + min(n, 0))
		check(math.MinInt64 + max(n, 0))
	}
	for shift := range 64 {
		for n := int64(-3); n <= 3; n++ {
			check(int64(1)<<shift + n)
			check(-(int64(1) << shift) + n)
		}
	}
}

// P1.3
func TestNumbersAreReadFromNoOtherTexts(t *testing.T) {
	for s := range textsOf("-+012 9a", 5) {
		checkNumber(t, s)
	}
	for _, ahead := range []string{"922337203685477", "-922337203685477", "1844674407370955", "-"} {
		for s := range textsOf("0578", 4) {
			checkNumber(t, ahead+s)
		}
	}
}

func checkNumber(t *testing.T, s string) {
	n, e := text.ParseNum(s)
	switch {
	case isNumber(s) && (e != api.OK || text.Num(n) != s):
		t.Fatalf("ParseNum(%q) = %d, %d", s, n, e)
	case !isNumber(s) && (e != api.ErrText || n != 0):
		t.Fatalf("ParseNum(%q) = %d, %d", s, n, e)
	}
}
