package sha

// word is what a digest reckons with; its sums wrap round.
type word uint32

// turned is x turned right by that many bits, at most 32.
func (x word) turned(by uint) word {
	return x>>by | x<<(32-by)
}

// shifted is x shifted right by that many bits.
func (x word) shifted(by uint) word {
	return x >> by
}

// mixed is x turned by first, turned by second, and moved by third as last moves it, xored.
func mixed(x word, first, second uint, last func(word, uint) word, third uint) word {
	return word.turned(x, first) ^ word.turned(x, second) ^ last(x, third)
}

// wordAt is the word whose highest byte is b[at].
func wordAt(b [blockSize]byte, at int) word {
	return word(b[at])<<24 | word(b[at+1])<<16 | word(b[at+2])<<8 | word(b[at+3])
}
