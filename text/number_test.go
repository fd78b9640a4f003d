package text_test

import (
	"math"
	"math/big"
	"strings"
	"testing"

	"scorebook/api"
	"scorebook/text"
)

const (
	least = math.MinInt64
	most  = math.MaxInt64
)

// P3.3

func TestName(t *testing.T) {
	for _, s := range []string{"A", "Z", "A1", "A-", "A_", "A-1_Z", "AZ09_-", "ABCDEFGHIJKLMNOP", "A---------------"} {
		if !text.Name(s) {
			t.Errorf("%q is no name", s)
		}
	}
	for _, s := range []string{"", "a", "1", "1A", "-", "-A", "_A", "_", " A", "A ", "A B", "Aa", "A.", "A\"", "A;", "A\n", "A\x00", "ABCDEFGHIJKLMNOPQ", "É", "AÉ", "[", "@", "A[", "A@", "A:", "A/", "A`"} {
		if text.Name(s) {
			t.Errorf("%q is a name", s)
		}
	}
}

func TestNameOfEveryByte(t *testing.T) {
	for b := range 256 {
		letter := b >= 'A' && b <= 'Z'
		s := string([]byte{byte(b)})
		if text.Name(s) != letter {
			t.Errorf("Name(%q) = %v", s, !letter)
		}
		if want := letter || b >= '0' && b <= '9' || b == '_' || b == '-'; text.Name("A"+s+"B") != want {
			t.Errorf("Name(%q) = %v", "A"+s+"B", !want)
		}
	}
}

// P3.4

func TestNumber(t *testing.T) {
	for _, x := range []struct {
		s      string
		lo, hi int64
		n      int64
		e      api.Errno
	}{
		{"0", 0, 0, 0, api.OK},
		{"7", 0, 9, 7, api.OK},
		{"-7", -9, 9, -7, api.OK},
		{"100", 100, 100, 100, api.OK},
		{"-10", -10, -10, -10, api.OK},
		{"9223372036854775807", least, most, most, api.OK},
		{"-9223372036854775808", least, most, least, api.OK},
		{"7", 0, 5, 0, api.ErrRange},
		{"7", 8, 9, 0, api.ErrRange},
		{"-7", 0, 9, 0, api.ErrRange},
		{"-7", -6, 9, 0, api.ErrRange},
		{"-7", -9, -8, 0, api.ErrRange},
		{"5", 9, 0, 0, api.ErrRange},
		{"9223372036854775808", least, most, 0, api.ErrRange},
		{"-9223372036854775809", least, most, 0, api.ErrRange},
		{"18446744073709551616", least, most, 0, api.ErrRange},
		{"-18446744073709551616", least, most, 0, api.ErrRange},
		{"1" + strings.Repeat("0", 10_000), least, most, 0, api.ErrRange},
	} {
		if n, e := text.Number(x.s, x.lo, x.hi); n != x.n || e != x.e {
			t.Errorf("Number(%.30q, %d, %d) = %d, %d; want %d, %d", x.s, x.lo, x.hi, n, e, x.n, x.e)
		}
	}
}

func TestNumberOfNoDecimal(t *testing.T) {
	for _, s := range []string{"", "-", "-0", "--1", "+1", "+0", "00", "01", "-01", "-00", " 1", "1 ", "1-", "1_0", "0x1", "1e1", "1.0", "1.", ".1", "a", "1a", "/", ":", "١", "1\n", "\x001", "−1", strings.Repeat("0", 10_000), "0" + strings.Repeat("9", 30), strings.Repeat("9", 30) + "x"} {
		for _, hi := range []int64{most, 5, least} {
			if n, e := text.Number(s, 0, hi); n != 0 || e != api.ErrForm {
				t.Errorf("Number(%.30q, 0, %d) = %d, %d; want ErrForm", s, hi, n, e)
			}
		}
	}
}

func integers() []int64 {
	out := []int64{0, least, least + 1, most, most - 1}
	for _, n := range []int64{1, 9, 10, 11, 99, 100, 101, 1_000_000, 1 << 31, 1 << 32, 1<<53 + 1, 1e18, 999_999_999_999_999_999} {
		out = append(out, n, -n)
	}
	return out
}

func TestDecimalAndNumber(t *testing.T) {
	for _, n := range integers() {
		s := text.Decimal(n)
		if s != big.NewInt(n).String() {
			t.Errorf("Decimal(%d) = %q", n, s)
		}
		if got, e := text.Number(s, least, most); got != n || e != api.OK {
			t.Errorf("Number(%q) = %d, %d", s, got, e)
		}
		if got, e := text.Number(s, n, n); got != n || e != api.OK {
			t.Errorf("Number(%q, %d, %d) = %d, %d", s, n, n, got, e)
		}
	}
}

func TestPadded(t *testing.T) {
	for _, x := range []struct {
		n     int64
		width int
		want  string
	}{
		{-7, 3, "-007"}, {7, 3, "007"}, {0, 3, "000"}, {0, 1, "0"}, {0, 0, "0"}, {0, -5, "0"}, {7, math.MinInt, "7"}, {-7, 0, "-7"}, {-7, 1, "-7"}, {-7, 2, "-07"},
		{123, 3, "123"}, {1234, 3, "1234"}, {-1234, 3, "-1234"}, {-123, 4, "-0123"},
		{5, 20, "00000000000000000005"}, {5, 19, "0000000000000000005"}, {5, 21, "00000000000000000005"}, {-5, 99, "-00000000000000000005"}, {5, math.MaxInt, "00000000000000000005"},
		{most, 20, "09223372036854775807"}, {least, 20, "-09223372036854775808"}, {least, 19, "-9223372036854775808"}, {least, 0, "-9223372036854775808"},
	} {
		if s := text.Padded(x.n, x.width); s != x.want {
			t.Errorf("Padded(%d, %d) = %q; want %q", x.n, x.width, s, x.want)
		}
	}
}
