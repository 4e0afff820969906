package field

// mostDigits is how many a number may have.
const mostDigits = 9

// Number is what the digits of s tell, at most most, and whether s is one to nine digits (J2).
func Number(s string, most int) (int, bool) {
	if s == "" || len(s) > mostDigits {
		return 0, false
	}
	n := 0
	for at := range len(s) {
		c := s[at]
		if c < '0' || c > '9' {
			return 0, false
		}
		n = n*10 + int(c-'0')
	}
	return min(n, most), true
}
