package lender_test

import "fmt"

// What the tests hold the calls against is reckoned here in other ways than the program's: the sum by powers from the end, the log from its entries upwards instead of by cuts.

func sumOf(s string) int {
	sum, power := 0, 1
	for i := len(s) - 1; i >= 0; i-- {
		sum = (sum + (int(s[i])+1)*power) % 4093
		power = power * 263 % 4093
	}
	return sum
}

func leafOf(entry string) int {
	return sumOf("E" + entry)
}

func nodeOf(a, b int) int {
	return sumOf("N" + string([]byte{byte(a & 255), byte(a >> 8), byte(b & 255), byte(b >> 8)}))
}

// rowsOf joins neighbours row by row until one sum is left; an odd last one goes up as it is.
func rowsOf(l []string) [][]int {
	var row []int
	for _, s := range l {
		row = append(row, leafOf(s))
	}
	rows := [][]int{row}
	for len(row) > 1 {
		var up []int
		for j := 0; j < len(row); j += 2 {
			if j+1 < len(row) {
				up = append(up, nodeOf(row[j], row[j+1]))
			} else {
				up = append(up, row[j])
			}
		}
		row = up
		rows = append(rows, row)
	}
	return rows
}

func rootOf(l []string) int {
	if len(l) == 0 {
		return 0
	}
	rows := rowsOf(l)
	return rows[len(rows)-1][0]
}

func pathOf(l []string, i int) []int {
	path := []int{}
	for _, row := range rowsOf(l) {
		if beside := i ^ 1; beside < len(row) {
			path = append(path, row[beside])
		}
		i /= 2
	}
	return path
}

// leadsOf climbs from the entry at i: last is the place of the row's last sum.
func leadsOf(n, i, s int, path []int) (int, bool) {
	last := n - 1
	for _, p := range path {
		if p < 0 || p > 4092 {
			return 0, false
		}
		for last > 0 && i == last && i%2 == 0 {
			i, last = i/2, last/2
		}
		if last == 0 {
			return 0, false
		}
		if i%2 == 1 {
			s = nodeOf(p, s)
		} else {
			s = nodeOf(s, p)
		}
		i, last = i/2, last/2
	}
	for last > 0 && i == last && i%2 == 0 {
		i, last = i/2, last/2
	}
	return s, last == 0
}

// entries gives a log of n entries of many lengths, the empty one and one of 40 bytes among them.
func entries(n int) []string {
	var l []string
	for i := 0; i < n; i++ {
		b := make([]byte, (i*7+3)%41)
		for j := range b {
			b[j] = byte(i*31 + j*17)
		}
		l = append(l, string(b))
	}
	return l
}

// named gives the log "entry 0", "entry 1", ...
func named(n int) []string {
	var l []string
	for i := 0; i < n; i++ {
		l = append(l, fmt.Sprint("entry ", i))
	}
	return l
}

// dice gives numbers that look thrown but are the same in every run.
type dice struct{ state uint64 }

func (d *dice) below(n int) int {
	d.state = d.state*6364136223846793005 + 1442695040888963407
	return int((d.state >> 33) % uint64(n))
}
