package vm

// truth is a truth as a number.
func truth(yes bool) int {
	if yes {
		return 1
	}
	return 0
}

// operate is what an operator, by its number, makes of two numbers.
func operate(number, a, b int) int {
	switch number {
	case 1:
		return a + b
	case 2:
		return a - b
	case 3:
		return a * b
	case 4:
		if b == 0 {
			return 0
		}
		return a / b
	case 5:
		if b == 0 {
			return 0
		}
		return a % b
	case 6:
		return truth(a < b)
	case 7:
		return truth(a <= b)
	case 8:
		return truth(a > b)
	case 9:
		return truth(a >= b)
	case 10:
		return truth(a == b)
	case 11:
		return truth(a != b)
	case 12:
		return truth(a != 0 && b != 0)
	}
	return truth(a != 0 || b != 0)
}
