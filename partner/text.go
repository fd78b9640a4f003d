package partner

import (
	"strings"

	"scorebook/api"
	"scorebook/text"
)

// MaxNumber is the greatest number in the text of a fall.
const MaxNumber = 1_000_000

const separator = ", " // of two falls

// Text returns falls as "1-12 (3), 2-40 (1)".
func Text(l []api.Fall) (string, api.Errno) {
	var parts []string
	for _, f := range l {
		if !isNumber(f.Wicket) || !isNumber(f.Runs) || !isNumber(f.Player) {
			return "", api.ErrRange
		}
		parts = append(parts, text.Decimal(int64(f.Wicket))+"-"+text.Decimal(int64(f.Runs))+" ("+text.Decimal(int64(f.Player))+")")
	}
	return strings.Join(parts, separator), api.OK
}

func isNumber(n int) bool { return n >= 0 && n <= MaxNumber }

// Parse returns the falls with a text, without their balls.
func Parse(s string) ([]api.Fall, api.Errno) {
	if s == "" {
		return nil, api.OK
	}
	var l []api.Fall
	for _, part := range strings.Split(s, separator) {
		f, ok := parseFall(part)
		if !ok {
			return nil, api.ErrForm
		}
		l = append(l, f)
	}
	return l, api.OK
}

// parseFall returns the fall of a part of a text, and whether there is one.
func parseFall(s string) (api.Fall, bool) {
	wicket, rest, _ := strings.Cut(s, "-")
	runs, rest, _ := strings.Cut(rest, " (")
	player, closed := strings.CutSuffix(rest, ")")
	var n [3]int64
	for i, digits := range []string{wicket, runs, player} {
		var e api.Errno
		// Where a sign is missing, the part behind it is empty, which is no number.
		if n[i], e = text.Number(digits, 0, MaxNumber); e != api.OK {
			return api.Fall{}, false
		}
	}
	return api.Fall{Wicket: int(n[0]), Runs: int(n[1]), Player: int(n[2])}, closed
}
