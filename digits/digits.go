// Package digits reads numbers in decimal, for the packages that read texts.
package digits

// Read answers the number that s is: digits alone, no nought ahead of another
// digit, at most most.
func Read(s string, most uint64) (uint64, bool) {
	if s == "" || len(s) > 1 && s[0] == '0' {
		return 0, false
	}
	var n uint64
	for _, r := range s {
		if r < '0' || r > '9' {
			return 0, false
		}
		d := uint64(r - '0')
		// Asked ahead of the sum, which could go round.
		if n > most/10 || n*10 > most-d || d > most {
			return 0, false
		}
		n = n*10 + d
	}
	return n, true
}
