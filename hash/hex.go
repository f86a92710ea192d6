package hash

// digits are the hexadecimal digits in the order of their values.
const digits = "0123456789abcdef"

// Hex returns two hexadecimal digits for each byte of s.
func Hex(s string) string {
	b := make([]byte, 0, 2*len(s))
	for i := range len(s) {
		b = append(b, digits[s[i]>>4], digits[s[i]&15])
	}
	return string(b)
}

// Unhex returns the string whose Hex is s, and whether there is one.
func Unhex(s string) (string, bool) {
	if len(s)%2 != 0 {
		return "", false
	}
	b := make([]byte, 0, len(s)/2)
	for i := 0; i < len(s); i += 2 {
		high, ok := valueOf(s[i])
		low, alsoOk := valueOf(s[i+1])
		if !ok || !alsoOk {
			return "", false
		}
		b = append(b, high<<4|low)
	}
	return string(b), true
}

// valueOf returns the value of a hexadecimal digit, and whether c is one.
func valueOf(c byte) (byte, bool) {
	switch {
	case '0' <= c && c <= '9':
		return c - '0', true
	case 'a' <= c && c <= 'f':
		return c - 'a' + 10, true
	}
	return 0, false
}
